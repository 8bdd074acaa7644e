"""Lists of joins."""

from rankedjoins.checks import check_alphabet, check_number, is_number_below
from rankedjoins.errors import NoPiece, NotProper
from rankedjoins.rows import join_down, letter_row

MOST_JOINS = 60
MOST_SIGNS_OF_PIECE = 40


def may_follow(alphabet, texts, ranks, pair):
    """Whether the pair may be the next join of the proper list with these texts of pieces and ranks of pairs."""
    left, right = pair
    if not (is_number_below(left, len(texts)) and is_number_below(right, len(texts))):
        return False
    text = texts[left] + texts[right]
    if len(text) > MOST_SIGNS_OF_PIECE:
        return False
    return join_down(ranks, len(alphabet), letter_row(alphabet, text)) == [left, right]


class Joins:
    """A proper list of joins over an alphabet; it never changes."""

    def __init__(self, alphabet, pairs):
        check_alphabet(alphabet)
        self.alphabet = alphabet
        self.pairs = tuple([(left, right) for left, right in pairs])
        self._texts = list(alphabet)
        self._ranks = {}
        for rank, pair in enumerate(self.pairs):
            if not may_follow(alphabet, self._texts, self._ranks, pair):
                raise NotProper(rank)
            self._texts.append(self._texts[pair[0]] + self._texts[pair[1]])
            self._ranks[pair] = rank
        self._pieces_by_text = {text: piece for piece, text in enumerate(self._texts)}

    @property
    def pieces(self):
        """How many pieces there are."""
        return len(self._texts)

    def __len__(self):
        return len(self.pairs)

    def __iter__(self):
        return iter(self.pairs)

    def __eq__(self, other):
        return isinstance(other, Joins) and self.alphabet == other.alphabet and self.pairs == other.pairs

    def text_of(self, piece):
        """The text of the piece."""
        self.check_piece(piece)
        return self._texts[piece]

    def parts_of(self, piece):
        """The pair out of which the piece is made, None for a letter."""
        self.check_piece(piece)
        if piece < len(self.alphabet):
            return None
        return self.pairs[piece - len(self.alphabet)]

    def rank_of(self, left, right):
        """The rank of this pair, None if it is no join."""
        self.check_piece(left)
        self.check_piece(right)
        return self._ranks.get((left, right))

    def piece_of(self, text):
        """The piece with this text, None if there is none."""
        return self._pieces_by_text.get(text)

    def first(self, many):
        """The list of the first many joins."""
        check_number(many, len(self.pairs) + 1)
        return Joins(self.alphabet, self.pairs[:many])

    def has_piece(self, piece):
        """Whether the value is a piece."""
        return is_number_below(piece, len(self._texts))

    def check_piece(self, piece):
        """NoPiece unless the value is a piece."""
        if not self.has_piece(piece):
            raise NoPiece(piece)

    def join_row(self, row):
        """The list that is left of the row when neighbors have been joined as long as a join allows it."""
        return join_down(self._ranks, len(self.alphabet), row)
