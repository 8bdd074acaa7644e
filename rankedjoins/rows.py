"""Rows of pieces and the joins that put their neighbors together."""

from rankedjoins.errors import UnknownSign


def letter_row(alphabet, text):
    """The letters of the text as a list of pieces; UnknownSign with the first sign that is none."""
    row = []
    for at, sign in enumerate(text):
        piece = alphabet.find(sign)
        if piece < 0:
            raise UnknownSign(sign, at)
        row.append(piece)
    return row


def join_neighbors(row, pair, piece):
    """The row after one pass from left to right that makes the piece out of each two neighbors that are the pair."""
    left, right = pair
    joined = []
    for following in row:
        # What was just made is a higher piece than left, so it is never put together twice.
        if joined and joined[-1] == left and following == right:
            joined[-1] = piece
        else:
            joined.append(following)
    return joined


def lowest_join(ranks, row):
    """(rank, pair) of the lowest rank that two neighbors in the row have, None if there is none."""
    return min([(ranks[pair], pair) for pair in zip(row, row[1:]) if pair in ranks], default=None)


def join_down(ranks, letters, row):
    """The row after joining as long as two neighbors are a pair; ranks tells the rank of each pair."""
    lowest = lowest_join(ranks, row)
    while lowest is not None:
        rank, pair = lowest
        # The piece that is made is part of later joins only, so all places of the pair may go in one pass.
        row = join_neighbors(row, pair, letters + rank)
        lowest = lowest_join(ranks, row)
    return row
