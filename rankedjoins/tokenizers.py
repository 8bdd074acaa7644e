"""Tokenizers: lists of joins together with marks, which stand in texts like <name>."""

from rankedjoins.checks import is_number_below
from rankedjoins.errors import InvalidAlphabet, NoPiece, UnknownSign
from rankedjoins.pairs import side_by_side
from rankedjoins.plain import cut

BLANK = " "


class Tokenizer:
    """Pieces and, behind them, marks; joins and marks, the texts of the marks in order, never change."""

    def __init__(self, joins, marks):
        if "<" in joins.alphabet or ">" in joins.alphabet:
            raise InvalidAlphabet(joins.alphabet)
        self.joins = joins
        self.marks = tuple([f"<{name}>" for name in marks])
        self._numbers = {mark: joins.pieces + place for place, mark in enumerate(self.marks)}

    @property
    def size(self):
        """How many numbers there are."""
        return self.joins.pieces + len(self.marks)

    def numbers_of(self, text):
        """The numbers of the marks and of the cuts of the chunks of the text, in order."""
        units = self.units_of(text)
        at = len("".join(units))
        if at < len(text):
            raise UnknownSign(text[at], at)
        numbers = []
        chunk = ""
        for unit in units:
            if unit == BLANK or unit in self._numbers:
                numbers.extend(cut(self.joins, chunk))
                chunk = ""
            if unit in self._numbers:
                numbers.append(self._numbers[unit])
            else:
                chunk = chunk + unit
        return tuple(numbers) + cut(self.joins, chunk)

    def spans(self, text):
        """(begin, end) for each number of the text: the place of its first sign, and the place after its last one."""
        found = []
        begin = 0
        for number in self.numbers_of(text):
            end = begin + len(self.text_of((number,)))
            found.append((begin, end))
            begin = end
        return tuple(found)

    def text_of(self, numbers):
        """The texts of the numbers together; NoPiece with the first one that is none."""
        for number in numbers:
            if not is_number_below(number, self.size):
                raise NoPiece(number)
        return "".join([self.text_of_number(number) for number in numbers])

    def is_encoding(self, numbers):
        """Whether the row, any row of integers, is what numbers_of tells of some text."""
        if not all([is_number_below(number, self.size) for number in numbers]):
            return False
        if any([BLANK in self.text_of_number(number)[1:] for number in numbers]):
            return False
        return all([self.may_follow_in_text(left, right) for left, right in zip(numbers, numbers[1:])])

    def units_of(self, text):
        """The letters and marks of the text, up to the first sign that is no letter and belongs to no mark."""
        units = []
        at = 0
        unit = self.unit_at(text, at)
        while unit is not None:
            units.append(unit)
            at += len(unit)
            unit = self.unit_at(text, at)
        return units

    def unit_at(self, text, at):
        """The letter or mark that stands at this place of the text, None if there is none."""
        if at < len(text) and text[at] in self.joins.alphabet:
            return text[at]
        for mark in self.marks:
            if text[at:at + len(mark)] == mark:
                return mark
        return None

    def number_of_mark(self, mark):
        """The number of the mark, None if it is none."""
        return self._numbers.get(mark)

    def is_mark(self, number):
        """Whether this is the number of a mark."""
        return number >= self.joins.pieces

    def text_of_number(self, number):
        """The text of the piece or mark with this number."""
        if self.is_mark(number):
            return self.marks[number - self.joins.pieces]
        return self.joins.text_of(number)

    def may_follow_in_text(self, left, right):
        """Whether right may stand behind left in the numbers of a text."""
        if self.is_mark(left) or self.is_mark(right) or self.joins.text_of(right)[0] == BLANK:
            return True
        return side_by_side(self.joins, left, right)
