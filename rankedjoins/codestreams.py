"""Numbering a text with marks that is read little by little."""

from rankedjoins.errors import UnknownSign
from rankedjoins.streams import Stream


class CodeStream:
    """A text with marks that is read little by little; each number is told as soon as it is sure."""

    def __init__(self, tokenizer):
        self._tokenizer = tokenizer
        # It reads what stands between marks as a whole: no piece has a blank after its first sign, so that the end of a
        # chunk ahead of a blank changes nothing in what is cut.
        self._stream = Stream(tokenizer.joins)
        self.begin_anew()

    def begin_anew(self):
        """Nothing is read and nothing is told from now on."""
        self._stream.finish()
        self._read = ""
        self._told = 0
        # What was read of a mark that is not finished, and whether its number is told.
        self._begun = ""
        self._is_begun_told = False

    def feed(self, text):
        """Reads these signs; the numbers that are sure now and were not told before."""
        read = self._read + text
        signs = self._begun + text
        units = self._tokenizer.units_of(signs)
        begun = signs[len("".join(units)):]
        numbers_begun = self.numbers_begun(begun)
        if begun != "" and len(numbers_begun) == 0:
            raise UnknownSign(begun[0], len(read) - len(begun))
        numbers = self.numbers_of_units(units)
        if begun != "":
            numbers.extend(self._stream.finish())
        if len(numbers_begun) == 1:
            numbers.extend(numbers_begun)
        if self._is_begun_told:
            # The first number is the one of the mark that was not finished.
            numbers = numbers[1:]
        self._read = read
        self._told += len(numbers)
        self._begun = begun
        self._is_begun_told = len(numbers_begun) == 1
        return tuple(numbers)

    def numbers_begun(self, begun):
        """The numbers of the marks that begin so; there is none if no mark is begun."""
        marks = [mark for mark in self._tokenizer.marks if mark.startswith(begun)]
        return [self._tokenizer.number_of_mark(mark) for mark in marks if begun != ""]

    def numbers_of_units(self, units):
        """Reads these letters and marks; the numbers that are sure now of those that the stream has not told."""
        numbers = []
        for unit in units:
            number = self._tokenizer.number_of_mark(unit)
            if number is None:
                numbers.extend(self._stream.feed(unit))
            else:
                numbers.extend(self._stream.finish())
                numbers.append(number)
        return numbers

    def finish(self):
        """The other numbers of all that was read; then nothing is read."""
        row = self._tokenizer.numbers_of(self._read)[self._told:]
        self.begin_anew()
        return row

    @property
    def told(self):
        """How many numbers feed has told since the last finish."""
        return self._told

    @property
    def waiting(self):
        """The signs that were read and do not belong to told numbers."""
        return self._stream.waiting if self._begun == "" or self._is_begun_told else self._begun
