"""Cutting a text in one pass from left to right."""

from rankedjoins.joinlists import MOST_SIGNS_OF_PIECE
from rankedjoins.pairs import following_masks
from rankedjoins.plain import letters_of


def is_tail(masks, row_of_tails, piece, begin):
    """Whether the piece that begins at this place may follow what is ahead of it."""
    return begin == 0 or (masks[row_of_tails[begin - 1]] >> piece) & 1 == 1


def next_tail(joins, masks, text, row_of_tails):
    """The last piece of the cut of the text, where row_of_tails are those of its shorter beginnings."""
    longest = min(len(text), MOST_SIGNS_OF_PIECE)
    for length in range(1, longest + 1):
        begin = len(text) - length
        piece = joins.piece_of(text[begin:])
        if piece is not None and is_tail(masks, row_of_tails, piece, begin):
            return piece
    return None


def tails(joins, text):
    """For each beginning of the text with 1, 2, ... letters, the last piece of its cut."""
    masks = following_masks(joins)
    row_of_tails = []
    for at in range(len(letters_of(joins, text))):
        row_of_tails.append(next_tail(joins, masks, text[:at + 1], row_of_tails))
    return tuple(row_of_tails)


def chain(joins, row_of_tails):
    """The cut of the text that has these tails."""
    at = len(row_of_tails)
    row = []
    while at > 0:
        piece = row_of_tails[at - 1]
        row.append(piece)
        at -= len(joins.text_of(piece))
    return tuple(row[::-1])
