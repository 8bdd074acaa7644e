"""Chances under the condition that a text comes to an end and is taken by a machine."""

from rankedjoins.errors import NoChance
from rankedjoins.masks import states_behind
from rankedjoins.plain import text_of_row
from rankedjoins.shares import Share


def solved(rows):
    """(under, overs): over / under, for each over, solves the equations; a row has the factors and then the sum.

    All is told in integers: each division is exact, as all numbers are determinants of parts of the rows. The factors
    are such that no determinant of the first rows is 0.
    """
    under = 1
    for at in range(len(rows)):
        chosen = rows[at]
        factor = chosen[at]
        rows = [
            row if place == at else [(factor * own - row[at] * other) // under for own, other in zip(row, chosen)]
            for place, row in enumerate(rows)
        ]
        under = factor
    return under, [row[-1] for row in rows]


class Outlook:
    """How likely a text comes to an end and is taken, from a stand (last piece, state of the machine) on.

    This chance is told as an integer, the worth of the stand: the chance is the worth divided by the whole.
    """

    def __init__(self, model, machine, stand):
        self._model = model
        self._machine = machine
        self._columns = states_behind(model.joins, machine)
        self._stands = self.stands_from(stand)
        live = self.live_stands()
        self.whole, worths = solved([self.equation(live, key) for key in live])
        self._worths = {key: worth for key, worth in zip(live, worths)}

    def stand_behind(self, stand, piece):
        """The stand after this one when the piece comes next; its state is None if the machine has no step."""
        _, state = stand
        return piece, self._columns[piece][state]

    def steps_from(self, stand):
        """(stand after it, weight) for all pieces that may come next and for which the machine has steps."""
        pieces = [(piece, weight) for piece, weight in self._model.choices_of(stand[0]) if piece is not None]
        steps = [(self.stand_behind(stand, piece), weight) for piece, weight in pieces]
        return [(after, weight) for after, weight in steps if after[1] is not None]

    def end_weight(self, stand):
        """The weight of the end after this stand, 0 if the text is not taken there."""
        last, state = stand
        return self._model.weight_of(last, None) if state in self._machine.ends else 0

    def stands_from(self, stand):
        """All stands that may be come to from this one, which is the first of them."""
        stands = [stand]
        known = {stand: True}
        at = 0
        while at < len(stands):
            steps = self.steps_from(stands[at])
            for after, _ in steps:
                if after not in known:
                    known[after] = True
                    stands.append(after)
            at += 1
        return stands

    def live_stands(self):
        """The stands from which a text may come to an end and be taken."""
        # Behind all others a chance is 0; with them the equations would have many solutions.
        live = {stand: True for stand in self._stands if self.end_weight(stand) > 0}
        grows = True
        while grows:
            others = [stand for stand in self._stands if stand not in live]
            found = [stand for stand in others if any([after in live for after, _ in self.steps_from(stand)])]
            for stand in found:
                live[stand] = True
            grows = len(found) > 0
        return list(live)

    def equation(self, live, stand):
        """The factors of the live stands, and behind them what they make together: the weight of the end.

        The sum of the weights behind a stand, times its chance, is the weight of the end and the weights of the steps,
        each times the chance of the stand after it.
        """
        factors = {key: 0 for key in live}
        factors[stand] = self._model.sum_behind(stand[0])
        for after, weight in self.steps_from(stand):
            if after in factors:
                factors[after] -= weight
        return list(factors.values()) + [self.end_weight(stand)]

    def worth_of(self, stand):
        """The worth of this stand, which is the first one or may come behind it."""
        return self._worths.get(stand, 0)

    def worths_of_next(self, stand):
        """(next, worth) for the end, which is None, and for the pieces that may come next, ascending."""
        end = self.end_weight(stand) * self.whole
        return [(None, end)] + [(after[0], weight * self.worth_of(after)) for after, weight in self.steps_from(stand)]


def chance_of_machine(model, machine):
    """The chance that a text that is drawn piece by piece comes to an end and is taken."""
    stand = (None, machine.start)
    outlook = Outlook(model, machine, stand)
    return Share(outlook.worth_of(stand), outlook.whole)


def next_pieces(model, machine, row):
    """(next, share) for the end, which is None, and the pieces that may come next, if the text is taken in the end."""
    text = text_of_row(model.joins, row)
    state = machine.after(machine.start, text)
    if state is None or model.chance_of_begin(row).over == 0:
        raise NoChance(text)
    stand = (row[-1] if len(row) > 0 else None, state)
    worths = Outlook(model, machine, stand).worths_of_next(stand)
    whole = sum([worth for _, worth in worths])
    if whole == 0:
        raise NoChance(text)
    return tuple([(following, Share(worth, whole)) for following, worth in worths if worth > 0])
