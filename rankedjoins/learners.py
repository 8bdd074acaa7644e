"""Learning a list of joins step by step, from a corpus that may grow."""

from rankedjoins.joinlists import MOST_JOINS, Joins
from rankedjoins.learning import counts_of, next_pair, totals_of
from rankedjoins.plain import cut, letters_of
from rankedjoins.rows import join_neighbors


class Learner:
    """A list of joins and a corpus that is cut by it; the list grows by steps, the corpus by texts that are read."""

    def __init__(self, alphabet, corpus):
        self._joins = Joins(alphabet, ())
        self._rows = [letters_of(self._joins, text) for text, _ in corpus]
        self._counts = counts_of(corpus)

    def step(self):
        """The pair that is learnt next and is a join from now on, None if learning stops or the list is full."""
        if len(self._joins) == MOST_JOINS:
            return None
        texts = [self._joins.text_of(piece) for piece in range(self._joins.pieces)]
        pair = next_pair(totals_of(self._rows, self._counts), texts)
        if pair is not None:
            self._rows = [join_neighbors(row, pair, self._joins.pieces) for row in self._rows]
            self._joins = Joins(self._joins.alphabet, self._joins.pairs + (pair,))
        return pair

    def list_so_far(self):
        """The list of all joins that were learnt."""
        return self._joins

    def totals(self):
        """(pair, total) for all neighbors in the corpus, cut by the list so far, as neighbors tells it."""
        return tuple(totals_of(self._rows, self._counts))

    def read(self, text, count):
        """The text belongs to the corpus from now on, count times."""
        row = cut(self._joins, text)
        self._rows.append(row)
        self._counts.append(count)
