"""The texts whose cuts have the fewest and the most pieces."""

from rankedjoins.pairs import choices_behind


def fewest(joins, many):
    """The lowest number of pieces of the cut of a text of many letters, and the first text that has so few."""
    return lowest_worth(joins, many, 1)


def most(joins, many):
    """The highest number of pieces of the cut of a text of many letters, and the first text that has so many."""
    worth, text = lowest_worth(joins, many, -1)
    return -worth, text


def lowest_worth(joins, many, worth):
    """(sum, text) of the lowest sum of a cut with many letters whose pieces are worth so much each; the first text."""
    behind = choices_behind(joins)
    texts = [joins.text_of(piece) for piece in range(joins.pieces)]
    # tables[n][last] is the lowest of n letters behind last, None if nothing of n letters may follow it. All that may
    # stand behind a piece is as good behind any beginning that ends in it, so the lowest rest is all that is needed.
    tables = [[(0, "") for _ in behind]]
    for letters in range(1, many + 1):
        table = []
        for choices in behind:
            fitting = [piece for piece in choices if len(texts[piece]) <= letters]
            rests = [(piece, tables[letters - len(texts[piece])][piece]) for piece in fitting]
            found = [(worth + rest[0], texts[piece] + rest[1]) for piece, rest in rests if rest is not None]
            table.append(min(found, default=None))
        tables.append(table)
    return tables[many][-1]
