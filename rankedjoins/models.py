"""Models, which tell how likely the next piece is, given the last one."""

from rankedjoins.errors import InvalidModel
from rankedjoins.learning import counts_of
from rankedjoins.pairs import choices_behind
from rankedjoins.plain import cut
from rankedjoins.shares import Share


def none_first(entries):
    """The entries, which begin with None and distinct integers, ascending, the one with None ahead of the others."""
    none = [entry for entry in entries if entry[0] is None]
    return none + sorted([entry for entry in entries if entry[0] is not None])


def check_weights(joins, weights):
    """InvalidModel unless these weights by last, each a dict of weights by next, make a model."""
    if None not in weights:
        raise InvalidModel(None)
    behind = choices_behind(joins)
    for last, choices in weights.items():
        if last is None:
            fitting = behind[-1]
        elif joins.has_piece(last):
            fitting = behind[last]
        else:
            raise InvalidModel(last)
        if not all([following is None or (following in fitting and following in weights) for following in choices]):
            raise InvalidModel(last)


class Model:
    """The chances of the next piece or the end, by the last piece; it never changes."""

    def __init__(self, joins, table):
        weights = {last: {following: weight for following, weight in choices} for last, choices in table}
        check_weights(joins, weights)
        self.joins = joins
        self._weights = weights
        self._sums = {last: sum(list(choices.values())) for last, choices in weights.items()}

    def chance_of_begin(self, row):
        """The chance that the pieces of the row come one after the other, from nothing ahead on."""
        self.check_row(row)
        return self.chance_along(row)

    def chance_of_row(self, row):
        """The chance that the pieces of the row come one after the other, and then the end."""
        self.check_row(row)
        return self.chance_along(list(row) + [None])

    def chance_of_text(self, text):
        """The chance of the row that is the cut of the text."""
        return self.chance_of_row(cut(self.joins, text))

    def table(self):
        """(last, choices), choices being pairs (next, weight); None comes first, and pieces ascending."""
        return tuple(none_first([(last, tuple(self.choices_of(last))) for last in self._weights]))

    def check_row(self, row):
        """NoPiece with the first one in the row that is none."""
        for piece in row:
            self.joins.check_piece(piece)

    def chance_along(self, choices):
        """The chance that these choices, pieces and behind them perhaps the end, are taken from nothing ahead on."""
        over = 1
        under = 1
        last = None
        for following in choices:
            weight = self.weight_of(last, following)
            if weight == 0:
                return Share(0, 1)
            over = over * weight
            under = under * self.sum_behind(last)
            last = following
        return Share(over, under)

    def choices_of(self, last):
        """(next, weight) for all choices behind last, None first and then pieces ascending; none if it has no row."""
        return none_first(list(self._weights.get(last, {}).items()))

    def weight_of(self, last, following):
        """The weight of this choice behind last, 0 if it is no choice."""
        return self._weights.get(last, {}).get(following, 0)

    def sum_behind(self, last):
        """The sum of the weights of all choices behind last, 1 if it has no row."""
        return self._sums.get(last, 1)


def model_of(joins, corpus):
    """The model whose weights tell how often each piece, or the end, comes next in the cuts of the texts."""
    rows = [cut(joins, text) for text, _ in corpus]
    weights = {}
    for row, count in zip(rows, counts_of(corpus)):
        last = None
        for following in list(row) + [None]:
            choices = weights.setdefault(last, {})
            choices[following] = choices.get(following, 0) + count
            last = following
    return Model(joins, [(last, list(choices.items())) for last, choices in weights.items()])
