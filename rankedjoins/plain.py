"""Cutting texts by a list of joins, at once or rank by rank."""

from rankedjoins.checks import check_number
from rankedjoins.rows import join_neighbors, letter_row


def letters_of(joins, text):
    """The row of the letters of the text; UnknownSign with the first sign that is none."""
    return tuple(letter_row(joins.alphabet, text))


def cut(joins, text):
    """The row that is left of the letters of the text when no two neighbors are a pair any more."""
    return tuple(joins.join_row(letters_of(joins, text)))


def text_of_row(joins, row):
    """The texts of the pieces together; NoPiece with the first one that is none."""
    return "".join([joins.text_of(piece) for piece in row])


def join_all(joins, row, rank):
    """The row after one pass from left to right that puts together wherever two neighbors are the pair of this rank."""
    check_number(rank, len(joins))
    return tuple(join_neighbors(row, joins.pairs[rank], len(joins.alphabet) + rank))


def staged(joins, row, many):
    """The row after the passes of the first many joins, one after the other."""
    check_number(many, len(joins) + 1)
    for rank in range(many):
        row = join_all(joins, row, rank)
    return tuple(row)


def split(joins, row, many):
    """The row with each piece that is made by a join of rank many or higher taken apart, as often as it takes."""
    check_number(many, len(joins) + 1)
    pieces_kept = len(joins.alphabet) + many
    waiting = list(row)[::-1]
    parted = []
    while waiting:
        piece = waiting.pop()
        if piece < pieces_kept:
            parted.append(piece)
        else:
            left, right = joins.parts_of(piece)
            waiting.append(right)
            waiting.append(left)
    return tuple(parted)


def history(joins, text):
    """(rank, row after it) for each rank whose pass changes the row that the passes ahead have made of the letters."""
    row = letters_of(joins, text)
    changes = []
    for rank in range(len(joins)):
        after = join_all(joins, row, rank)
        if after != row:
            changes.append((rank, after))
        row = after
    return tuple(changes)
