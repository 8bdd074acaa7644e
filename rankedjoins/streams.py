"""Cutting a text that is read little by little."""

from rankedjoins.joinlists import MOST_SIGNS_OF_PIECE
from rankedjoins.pairs import following_masks
from rankedjoins.plain import letters_of, text_of_row
from rankedjoins.tails import chain, is_tail, next_tail


def pieces_by_beginning(joins):
    """For each beginning of the text of a piece, without the empty one: the pieces whose texts begin so."""
    found = {}
    for piece in range(joins.pieces):
        text = joins.text_of(piece)
        for end in range(1, len(text) + 1):
            found.setdefault(text[:end], []).append(piece)
    return found


def covers_of(masks, beginnings, text, row_of_tails):
    """(begin, piece) for each piece with which a cut may come to the end of the text or first go beyond it."""
    found = []
    for begin in range(max(0, len(text) - MOST_SIGNS_OF_PIECE), len(text)):
        for piece in beginnings.get(text[begin:], ()):
            if is_tail(masks, row_of_tails, piece, begin):
                found.append((begin, piece))
    return found


def common_begin(joins, row_of_tails, begins):
    """The place at which the chains that end at these places part for the first time."""
    places = {begin: True for begin in begins}
    while len(places) > 1:
        # The chains are the ways of a tree to its root: the one that goes further is taken back by one piece.
        latest = max(list(places))
        del places[latest]
        places[latest - len(joins.text_of(row_of_tails[latest - 1]))] = True
    return min(list(places), default=0)


class Stream:
    """A text that is read little by little; each piece is told as soon as nothing that follows can change it."""

    def __init__(self, joins):
        self._joins = joins
        self._masks = following_masks(joins)
        self._beginnings = pieces_by_beginning(joins)
        self.begin_anew()

    def begin_anew(self):
        """Nothing is read and nothing is told from now on."""
        self._read = ""
        self._tails = []
        self._told = 0
        self._told_letters = 0

    def feed(self, text):
        """Reads these letters; the pieces that are sure now and were not told before."""
        letters_of(self._joins, text)
        for sign in text:
            self._read = self._read + sign
            self._tails.append(next_tail(self._joins, self._masks, self._read, self._tails))
        row = self.sure_row()[self._told:]
        self._told += len(row)
        self._told_letters += len(text_of_row(self._joins, row))
        return row

    def sure_row(self):
        """The longest common beginning of the cuts of all texts that begin with what was read."""
        covers = covers_of(self._masks, self._beginnings, self._read, self._tails)
        if len(covers) == 1:
            begin, piece = covers[0]
            return chain(self._joins, self._tails[:begin]) + (piece,)
        # Of two covers at one place each ends in a piece of its own, and of two at different places the later one
        # begins inside of the last piece of the other: no last piece is sure, only what is ahead of all covers is.
        begin = common_begin(self._joins, self._tails, [begin for begin, _ in covers])
        return chain(self._joins, self._tails[:begin])

    def finish(self):
        """The other pieces of the cut of all that was read; then nothing is read."""
        row = chain(self._joins, self._tails)[self._told:]
        self.begin_anew()
        return row

    @property
    def told(self):
        """How many pieces feed has told since the last finish."""
        return self._told

    @property
    def waiting(self):
        """The letters that were read and do not belong to told pieces."""
        return self._read[self._told_letters:]
