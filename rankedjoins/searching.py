"""Places of a text in the text of a row."""

from rankedjoins.plain import text_of_row


def places_of(joins, row, text):
    """The places, ascending, at which the text stands in the text of the row; places may overlap."""
    whole = text_of_row(joins, row)
    return tuple([at for at in range(len(whole) - len(text) + 1) if whole[at:at + len(text)] == text])
