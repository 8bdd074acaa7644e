"""Fractions of integers, in lowest terms."""

from math import gcd

from rankedjoins.errors import InvalidNumber


def digits_of(number):
    """The digits of an integer from 0 on, however many there are."""
    # Python itself refuses to write integers of more than some thousand digits.
    words = []
    while number >= 10 ** 64:
        number, low = divmod(number, 10 ** 64)
        words.append(str(low).zfill(64))
    words.append(str(number))
    return "".join(words[::-1])


class Share:
    """The fraction over / under of two integers, in lowest terms, with under above 0; it never changes."""

    def __init__(self, over, under):
        if under == 0:
            raise InvalidNumber(under)
        common = gcd(over, under)
        if under < 0:
            common = -common
        self.over = over // common
        self.under = under // common

    def __add__(self, other):
        return Share(self.over * other.under + other.over * self.under, self.under * other.under)

    def __sub__(self, other):
        return Share(self.over * other.under - other.over * self.under, self.under * other.under)

    def __mul__(self, other):
        return Share(self.over * other.over, self.under * other.under)

    def __eq__(self, other):
        return isinstance(other, Share) and self.over == other.over and self.under == other.under

    def is_below(self, other):
        """Whether this share is the lesser one."""
        return self.over * other.under < other.over * self.under

    def written(self):
        """The share in digits, without a bar if it is an integer."""
        sign = "-" if self.over < 0 else ""
        over = sign + digits_of(abs(self.over))
        return over if self.under == 1 else f"{over}/{digits_of(self.under)}"
