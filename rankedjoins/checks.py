"""What is asked of arguments before they are used."""

from rankedjoins.errors import InvalidAlphabet, InvalidNumber

MOST_LETTERS = 30


def is_integer(value):
    """Whether the value is an int and not a bool."""
    return isinstance(value, int) and not isinstance(value, bool)


def is_number_below(value, end):
    """Whether the value is an integer from 0 to end - 1."""
    return is_integer(value) and 0 <= value < end


def is_sign(sign):
    """Whether this string of one character is a sign."""
    return " " <= sign <= "~"


def is_alphabet(text):
    """Whether the text is an alphabet: 1 to 30 distinct signs, ascending."""
    ascending = all([first < second for first, second in zip(text, text[1:])])
    return 1 <= len(text) <= MOST_LETTERS and ascending and all([is_sign(sign) for sign in text])


def check_alphabet(text):
    """InvalidAlphabet unless the text is an alphabet."""
    if not is_alphabet(text):
        raise InvalidAlphabet(text)


def check_number(number, end):
    """InvalidNumber unless the number is an integer from 0 to end - 1."""
    if not is_number_below(number, end):
        raise InvalidNumber(number)
