"""Texts that are edited, and cuts that are put together."""

from rankedjoins.checks import check_number
from rankedjoins.judges import check_cut
from rankedjoins.plain import cut, letters_of, text_of_row


class Page:
    """A text that is edited, with all its edits."""

    def __init__(self, joins, text):
        letters_of(joins, text)
        self._joins = joins
        self._text = text
        self._behind = []
        self._ahead = []

    def content(self):
        """The text."""
        return self._text

    def cut_row(self):
        """The cut of the text."""
        return cut(self._joins, self._text)

    def __len__(self):
        return len(self._text)

    def put_in(self, at, text):
        """Puts the text in at this place."""
        check_number(at, len(self._text) + 1)
        letters_of(self._joins, text)
        self.change_to(self._text[:at] + text + self._text[at:])

    def take_out(self, at, many):
        """Takes many letters out at this place."""
        check_number(at, len(self._text) + 1)
        check_number(many, len(self._text) - at + 1)
        self.change_to(self._text[:at] + self._text[at + many:])

    def change_to(self, text):
        """Makes an edit of it if this is not the text already."""
        if text != self._text:
            self._behind.append(self._text)
            self._ahead = []
            self._text = text

    def undo(self):
        """Takes back the last edit that stands; whether there was one."""
        if len(self._behind) == 0:
            return False
        self._ahead.append(self._text)
        self._text = self._behind.pop()
        return True

    def redo(self):
        """Makes the edit anew that undo took back last and that does not stand; whether there was one."""
        if len(self._ahead) == 0:
            return False
        self._behind.append(self._text)
        self._text = self._ahead.pop()
        return True


def glued(joins, left, right):
    """For two cuts, the cut of their texts one after the other."""
    check_cut(joins, left)
    check_cut(joins, right)
    return cut(joins, text_of_row(joins, left) + text_of_row(joins, right))


def cut_in_parts(joins, texts):
    """The cut of all these texts together, in order."""
    for text in texts:
        # Asked of each text by itself, so that an unknown sign is told with its place in its own text.
        letters_of(joins, text)
    return cut(joins, "".join(texts))
