"""Learning lists of joins from a corpus."""

from rankedjoins.joinlists import MOST_SIGNS_OF_PIECE, Joins
from rankedjoins.plain import cut, join_all, letters_of
from rankedjoins.rows import join_neighbors

LOWEST_TOTAL = 2


def totals_of(rows, counts):
    """(pair, total) for all neighbors in the rows, sorted by descending total, then by pair; one count a row."""
    totals = {}
    for row, count in zip(rows, counts):
        for pair in zip(row, row[1:]):
            totals[pair] = totals.get(pair, 0) + count
    return sorted(list(totals.items()), key=lambda entry: (-entry[1], entry[0]))


def counts_of(corpus):
    """The counts of the texts."""
    return [count for _, count in corpus]


def neighbors(joins, corpus):
    """(pair, total) for all neighbors in the cuts of the texts, sorted by descending total, then by pair."""
    rows = [cut(joins, text) for text, _ in corpus]
    return tuple(totals_of(rows, counts_of(corpus)))


def next_pair(totals, texts):
    """The pair that is learnt next, None if learning stops; totals are sorted, texts are those of the pieces."""
    if not totals:
        return None
    pair, total = totals[0]
    if total < LOWEST_TOTAL or len(texts[pair[0]] + texts[pair[1]]) > MOST_SIGNS_OF_PIECE:
        return None
    return pair


def learn(alphabet, corpus, many):
    """The list that begins empty and to which, many times at most, the first pair of neighbors is added."""
    empty = Joins(alphabet, ())
    rows = [letters_of(empty, text) for text, _ in corpus]
    counts = counts_of(corpus)
    texts = list(alphabet)
    pairs = []
    pair = next_pair(totals_of(rows, counts), texts)
    while pair is not None and len(pairs) < many:
        # The cut by one more join is the old cut after the pass of that join, so no text is cut anew.
        rows = [join_neighbors(row, pair, len(texts)) for row in rows]
        texts.append(texts[pair[0]] + texts[pair[1]])
        pairs.append(pair)
        pair = next_pair(totals_of(rows, counts), texts)
    return Joins(alphabet, pairs)


def size_of(rows, counts):
    """The number of pieces of all rows, each row taken as often as its count tells."""
    return sum([count * len(row) for row, count in zip(rows, counts)])


def sizes(joins, corpus):
    """For each m from 0 on, how many pieces the corpus has when it is cut by the first m joins."""
    rows = [letters_of(joins, text) for text, _ in corpus]
    counts = counts_of(corpus)
    found = [size_of(rows, counts)]
    for rank in range(len(joins)):
        rows = [join_all(joins, row, rank) for row in rows]
        found.append(size_of(rows, counts))
    return tuple(found)


def corpus_of(joins):
    """A corpus from which the list is learnt: the texts of its joins, each counting 40 times as much as the next."""
    count = LOWEST_TOTAL
    entries = []
    for rank in reversed(range(len(joins))):
        entries.append((joins.text_of(len(joins.alphabet) + rank), count))
        # A text has fewer neighbors than letters, so all later texts together count less than this one.
        count = count * MOST_SIGNS_OF_PIECE
    return tuple(entries[::-1])
