"""The pieces that lead on to a text that a machine takes."""

from rankedjoins.judges import check_cut
from rankedjoins.pairs import choices_behind
from rankedjoins.plain import text_of_row


def states_behind(joins, machine):
    """For each piece, for each state: the state after the text of the piece, None if there is none."""
    columns = [[entry[letter] for entry in machine.steps] for letter in range(len(joins.alphabet))]
    for left, right in joins:
        column = [None if state is None else columns[right][state] for state in columns[left]]
        columns.append(column)
    return columns


def mask_of(pieces):
    """A number with the bits of these pieces."""
    return sum([1 << piece for piece in pieces])


def ends_ahead(machine, choices, columns):
    """How many pieces it takes at least, behind a piece after which the machine is in a state, to come to an end.

    A dict with keys (piece, state); it has no key from which no end can be come to. choices are choices_behind, columns
    are states_behind.
    """
    pieces = range(len(columns))
    masks = [mask_of(behind) for behind in choices]
    fewest = {(piece, state): 0 for piece in pieces for state in machine.ends}
    waiting = [(piece, state) for piece in pieces for state in range(len(machine.steps)) if state not in machine.ends]
    many = 0
    grows = True
    while grows:
        # Only what stands ahead of something that was found last can be found next, so all is found by its fewest.
        heads = []
        for state in range(len(machine.steps)):
            heads.append(mask_of([piece for piece in pieces if fewest.get((piece, columns[piece][state])) == many]))
        many += 1
        found = [(piece, state) for piece, state in waiting if masks[piece] & heads[state] != 0]
        for key in found:
            fewest[key] = many
        waiting = [key for key in waiting if key not in fewest]
        grows = len(found) > 0
    return fewest


class Roads:
    """What may come next in cuts whose text a machine takes."""

    def __init__(self, joins, machine):
        self._choices = choices_behind(joins)
        self._columns = states_behind(joins, machine)
        self._fewest = ends_ahead(machine, self._choices, self._columns)

    def state_behind(self, state, piece):
        """The state after the text of the piece."""
        return self._columns[piece][state]

    def next_pieces(self, row, state):
        """(fewest, piece) for the pieces that may come next behind the cut, ascending by piece.

        state is the one after the text of the row, fewest is how many more pieces it takes at least to come to an end.
        """
        if state is None:
            return []
        last = row[-1] if len(row) > 0 else -1
        found = [(self.fewest_behind(state, piece), piece) for piece in self._choices[last]]
        return [(fewest, piece) for fewest, piece in found if fewest is not None]

    def fewest_behind(self, state, piece):
        """How many pieces it takes at least, behind this piece, to come to an end; None if none can be come to.

        state is the one ahead of the piece.
        """
        return self._fewest.get((piece, self.state_behind(state, piece)))


def state_of(joins, machine, row):
    """The state after the text of the row; NotCut unless it is a cut."""
    check_cut(joins, row)
    return machine.after(machine.start, text_of_row(joins, row))


def lets(joins, machine, row):
    """The pieces that may come next behind the row in a cut whose text is taken."""
    state = state_of(joins, machine, row)
    return tuple([piece for _, piece in Roads(joins, machine).next_pieces(row, state)])


def may_end(joins, machine, row):
    """Whether the text of the row is taken."""
    return state_of(joins, machine, row) in machine.ends


def shortest_end(joins, machine, row):
    """The first of the rows with the fewest pieces that lead on to a text that is taken, None if none does."""
    state = state_of(joins, machine, row)
    roads = Roads(joins, machine)
    behind = list(row)
    while state not in machine.ends:
        found = roads.next_pieces(behind, state)
        if len(found) == 0:
            return None
        _, piece = min(found)
        behind.append(piece)
        state = roads.state_behind(state, piece)
    return tuple(behind[len(row):])
