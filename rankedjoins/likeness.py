"""Whether two lists of joins cut all texts into the same texts."""

from rankedjoins.pairs import choices_behind
from rankedjoins.plain import cut


def texts_of_cut(joins, text):
    """The texts of the pieces of the cut."""
    return [joins.text_of(piece) for piece in cut(joins, text)]


def telling_texts(joins):
    """The texts of all pieces, and of all two pieces that are side by side."""
    texts = [joins.text_of(piece) for piece in range(joins.pieces)]
    found = list(texts)
    for piece, text in enumerate(texts):
        found.extend([text + texts[choice] for choice in choices_behind(joins)[piece]])
    return found


def parting_text(joins, other):
    """The first of the shortest texts of pieces and neighbors that the two lists do not cut alike, None if none is."""
    texts = telling_texts(joins) + telling_texts(other)
    for _, text in sorted({(len(text), text) for text in texts}):
        if texts_of_cut(joins, text) != texts_of_cut(other, text):
            return text
    return None
