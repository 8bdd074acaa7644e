"""The pieces that may come next where a text ends, perhaps inside of a piece."""

from rankedjoins.masks import Roads
from rankedjoins.pairs import following_masks
from rankedjoins.plain import text_of_row
from rankedjoins.streams import Stream, covers_of, pieces_by_beginning
from rankedjoins.tails import chain, tails


def pieces_on_covers(joins, machine, text, row):
    """The pieces that come next behind the row in the cuts of texts that begin so and are taken; some several times.

    The row is sure, and it ends ahead of the end of the text.
    """
    roads = Roads(joins, machine)
    row_of_tails = tails(joins, text)
    found = []
    for begin, piece in covers_of(following_masks(joins), pieces_by_beginning(joins), text, row_of_tails):
        state = machine.after(machine.start, text[:begin])
        if state is not None and roads.fewest_behind(state, piece) is not None:
            cover = chain(joins, row_of_tails[:begin]) + (piece,)
            found.append(cover[len(row)])
    return found


def healed(joins, machine, text):
    """(row, pieces): what is sure of the text, and what may come next in texts that begin so and are taken."""
    row = Stream(joins).feed(text)
    if text_of_row(joins, row) == text:
        found = Roads(joins, machine).next_pieces(row, machine.after(machine.start, text))
        return row, tuple([piece for _, piece in found])
    return row, tuple(sorted(set(pieces_on_covers(joins, machine, text, row))))
