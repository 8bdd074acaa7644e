"""Lists of joins as texts."""

from rankedjoins.checks import is_alphabet
from rankedjoins.errors import InvalidText, NotProper
from rankedjoins.joinlists import MOST_JOINS, Joins

MOST_DIGITS = 4


def write_joins(joins):
    """The list as lines: the alphabet, then each pair."""
    return f"|{joins.alphabet}|\n" + "".join([f"{left} {right}\n" for left, right in joins])


def read_joins(text):
    """The list that is written so; InvalidText with the number of the first line that is wrong."""
    *lines, behind = text.split("\n")
    if not lines or not is_alphabet_line(lines[0]):
        raise InvalidText(text, 0)
    pairs = leading_pairs(lines[1:MOST_JOINS + 1])
    joins = joins_of_lines(text, lines[0][1:-1], pairs)
    if len(pairs) + 1 < len(lines) or behind != "":
        raise InvalidText(text, len(pairs) + 1)
    return joins


def is_alphabet_line(line):
    """Whether the line is an alphabet between two bars."""
    return line.startswith("|") and line.endswith("|") and is_alphabet(line[1:-1])


def leading_pairs(lines):
    """The pairs of the lines, up to the first line that is of another form."""
    pairs = []
    for line in lines:
        words = line.split(" ")
        if len(words) != 2 or not all([is_number_word(word) for word in words]):
            break
        pairs.append((int(words[0]), int(words[1])))
    return pairs


def is_number_word(word):
    """Whether the word is a number of at most 4 digits without leading zeros."""
    if not 1 <= len(word) <= MOST_DIGITS or not all(["0" <= sign <= "9" for sign in word]):
        return False
    return word == "0" or word[0] != "0"


def joins_of_lines(text, alphabet, pairs):
    """The list of these pairs; if it is not proper, InvalidText with the line of the first pair that is wrong."""
    try:
        return Joins(alphabet, pairs)
    except NotProper as wrong:
        raise InvalidText(text, wrong.rank + 1) from None
