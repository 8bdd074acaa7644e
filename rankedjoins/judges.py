"""Whether a row of pieces is the cut of its text, and why it is not."""

from rankedjoins.errors import NotCut
from rankedjoins.pairs import crossing, side_by_side
from rankedjoins.plain import text_of_row


def is_cut(joins, row):
    """Whether all in the row are pieces and every two neighbors are side by side."""
    if not all([joins.has_piece(piece) for piece in row]):
        return False
    return all([side_by_side(joins, left, right) for left, right in zip(row, row[1:])])


def check_cut(joins, row):
    """NotCut unless the row, any row of integers, is a cut."""
    if not is_cut(joins, row):
        raise NotCut(tuple(row))


def reason(joins, row):
    """None for a cut, otherwise (at, rank) of the first join that puts two neighboring pieces together."""
    for piece in row:
        joins.check_piece(piece)
    crossings = [crossing(joins, left, right) for left, right in zip(row, row[1:])]
    lowest = min([rank for rank in crossings if rank is not None], default=None)
    if lowest is None:
        return None
    return crossings.index(lowest), lowest


def judge(joins, text, row):
    """Whether the row is the cut of this text."""
    return is_cut(joins, row) and text_of_row(joins, row) == text
