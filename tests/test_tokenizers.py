"""[26]: tokenizers."""

import itertools
import re
import unittest

from rankedjoins.errors import InvalidAlphabet, NoPiece, UnknownSign
from rankedjoins.joinlists import Joins
from rankedjoins.tokenizers import Tokenizer
from support import (ALPHABET_OF_30, DOUBLING, EXAMPLE, HUGE, NAMES, SIXTY, Dice, Quick, drawn_pairs, literal_cut,
                     literal_texts, texts_with_marks, tokenizer_lists, told_error)

# The pieces: blank, a, b, c; ab, " a", abc, " ab" are 4 to 7.
BLANKS = (" abc", ((1, 2), (0, 1), (4, 3), (0, 4)))


def literal_numbers(alphabet, pairs, names, text):
    """[26]: the text parted by its marks, each stretch ahead of blanks, each chunk cut."""
    numbers = []
    marks = [f"<{name}>" for name in names]
    stretches = re.split("(" + "|".join(marks) + ")", text) if marks else [text]
    for stretch in stretches:
        if stretch in marks:
            numbers.append(len(alphabet) + len(pairs) + marks.index(stretch))
        else:
            for chunk in re.findall(" [^ ]*|[^ ]+", stretch):
                numbers.extend(literal_cut(alphabet, pairs, chunk))
    return tuple(numbers)


def literal_unknown(alphabet, names, text):
    """(sign, at) of the first sign that is no letter and belongs to no mark, None if there is none."""
    of_marks = {}
    for name in names:
        for found in re.finditer(f"<{name}>", text):
            of_marks.update({at: True for at in range(found.start(), found.end())})
    unknown = [(sign, at) for at, sign in enumerate(text) if sign not in alphabet and at not in of_marks]
    return unknown[0] if unknown else None


class Numbers(unittest.TestCase):
    def setUp(self):
        self.tokenizer = Tokenizer(Joins(*BLANKS), ("b", "be"))

    def test_texts_with_marks_and_blanks(self):
        for text, numbers in (("", ()), ("abc", (6,)), ("ab ab", (4, 7)), ("<b>", (8,)), ("<be>", (9,)), ("a<b>bc", (1, 8, 2, 3)),
                              ("a<b><be>", (1, 8, 9)), ("ab<b>c", (4, 8, 3)), ("<b>abc<b>", (8, 6, 8)), ("cab<be> a", (3, 4, 9, 5))):
            self.assertEqual(self.tokenizer.numbers_of(text), numbers)

    def test_blanks_at_the_beginning_at_the_end_behind_a_blank_and_behind_a_mark(self):
        for text, numbers in ((" ", (0,)), ("  ", (0, 0)), (" a", (5,)), ("a ", (1, 0)), ("a  a", (1, 0, 5)), ("<b> ab", (8, 7)),
                              (" <b>", (0, 8)), (" <b> ", (0, 8, 0)), ("a <be>a", (1, 0, 9, 1))):
            self.assertEqual(self.tokenizer.numbers_of(text), numbers)

    def test_a_chunk_ends_ahead_of_each_blank_whatever_the_joins_are(self):
        tokenizer = Tokenizer(Joins(" a", ((1, 0), (0, 0))), ())
        self.assertEqual(tokenizer.numbers_of("a a  a"), (1, 0, 1, 0, 0, 1))
        tokenizer = Tokenizer(Joins(" a", ((0, 0), (1, 1))), ())
        self.assertEqual(tokenizer.numbers_of("   aa"), (0, 0, 0, 3))

    def test_a_mark_parts_what_is_beside_it(self):
        tokenizer = Tokenizer(Joins(*EXAMPLE), ("x",))
        self.assertEqual(tokenizer.numbers_of("ab<x>c"), (3, 6, 2))
        self.assertEqual(tokenizer.numbers_of("a<x>b<x><x>c"), (0, 6, 1, 6, 6, 2))

    def test_no_marks_and_ten(self):
        tokenizer = Tokenizer(Joins(*EXAMPLE), ())
        self.assertEqual((tokenizer.size, tokenizer.numbers_of("aabcab")), (6, (0, 4, 3)))
        tokenizer = Tokenizer(Joins(*EXAMPLE), [name for name in "zyxwvutsrq"])
        self.assertEqual((tokenizer.size, tokenizer.numbers_of("<z>a<q><r>b")), (16, (6, 0, 15, 14, 1)))

    def test_names_of_which_one_begins_another(self):
        tokenizer = Tokenizer(Joins("ab", ()), ("abcdefgh", "a", "abc", "ab"))
        self.assertEqual(tokenizer.numbers_of("<a><ab><abc><abcdefgh>a"), (3, 5, 4, 2, 0))
        told_error(self, UnknownSign, lambda: tokenizer.numbers_of("<abcd>"), sign="<", at=0)

    def test_spans(self):
        for text, spans in (("", ()), ("abc", ((0, 3),)), ("a<be> ab", ((0, 1), (1, 5), (5, 8))), ("<b><b>", ((0, 3), (3, 6))),
                            (" a c", ((0, 2), (2, 3), (3, 4)))):
            self.assertEqual(self.tokenizer.spans(text), spans)

    def test_text_of(self):
        for numbers, text in (((), ""), ((8, 9, 8), "<b><be><b>"), ([6, 7, 0, 9], "abc ab <be>"), ((1, 2), "ab")):
            self.assertEqual(self.tokenizer.text_of(numbers), text)

    def test_is_encoding(self):
        for numbers in ((), (0,), [6, 7, 0, 9], (8, 8), (1, 8, 2), (1, 0), (0, 0, 0, 5), (3, 3), (9,)):
            self.assertIs(self.tokenizer.is_encoding(numbers), True)
        for numbers in ((1, 2), (0, 1), [4, 3], (5, 2), (0, 4), (8, 1, 2), (10,), (-1,), (HUGE,), (0, -HUGE), (8, 10)):
            self.assertIs(self.tokenizer.is_encoding(numbers), False)

    def test_pieces_with_a_blank_behind_the_first_sign(self):
        # The pieces: blank, a, "a ", " a", " aa ".
        tokenizer = Tokenizer(Joins(" a", ((1, 0), (0, 1), (3, 2))), ("x",))
        for numbers in ((2,), (1, 2), (4,), (5, 4, 5), (2, 0)):
            self.assertIs(tokenizer.is_encoding(numbers), False)
        for numbers in ((3,), (1, 3), (1, 0), (3, 0, 5, 1, 1)):
            self.assertIs(tokenizer.is_encoding(numbers), True)

    def test_kinds_of_values_and_arguments_by_name(self):
        names = ["b", "be"]
        tokenizer = Tokenizer(joins=Joins(*BLANKS), marks=names)
        names[0] = "c"
        names.append("d")
        self.assertEqual(tokenizer.numbers_of(text="a<b>"), (1, 8))
        self.assertEqual(tokenizer.spans(text="a<b>"), ((0, 1), (1, 4)))
        numbers = [1, 8]
        self.assertEqual(tokenizer.text_of(numbers=numbers), "a<b>")
        self.assertIs(tokenizer.is_encoding(numbers=numbers), True)
        self.assertEqual((tokenizer.size, numbers, names), (10, [1, 8], ["c", "be", "d"]))
        for found in (tokenizer.numbers_of(""), tokenizer.numbers_of("a<b>"), tokenizer.spans(""), tokenizer.spans("a")):
            self.assertIs(found.__class__, tuple)
        self.assertIs(tokenizer.spans("a")[0].__class__, tuple)


class WrongInputs(unittest.TestCase):
    def test_alphabets_with_the_signs_of_marks(self):
        for alphabet in ("<", ">", "<>", "+<a", "=>a", "<=>", "0<"):
            for names in ((), ["a"]):
                told_error(self, InvalidAlphabet, lambda: Tokenizer(Joins(alphabet, ()), names), alphabet=alphabet)
        self.assertEqual(Tokenizer(Joins("=", ()), ()).numbers_of("=="), (0, 0))

    def test_unknown_signs(self):
        tokenizer = Tokenizer(Joins(*EXAMPLE), ("a", "ab", "zz"))
        for text, sign, at in (("x", "x", 0), ("ab ", " ", 2), ("<", "<", 0), ("<a", "<", 0), ("a<zz>x", "x", 5), ("<zz", "<", 0),
                               ("<a>>", ">", 3), ("<<a>", "<", 0), ("a>b", ">", 1), ("<b>", "<", 0), ("<z><zz>", "<", 0),
                               ("<abc>", "<", 0), ("ab<a<ab>", "<", 2), ("<ab><A>", "<", 4), ("cc<ab>d<x", "d", 6)):
            for call in (tokenizer.numbers_of, tokenizer.spans):
                told_error(self, UnknownSign, lambda: call(text), sign=sign, at=at)

    def test_a_blank_that_is_no_letter(self):
        tokenizer = Tokenizer(Joins(*EXAMPLE), ("b",))
        told_error(self, UnknownSign, lambda: tokenizer.numbers_of("ab<b> <b>"), sign=" ", at=5)

    def test_drawn_texts_with_unknown_signs(self):
        dice = Dice(31)
        refused = 0
        for alphabet, pairs in tokenizer_lists()[:8]:
            for names in NAMES:
                tokenizer = Tokenizer(Joins(alphabet, pairs), names)
                for _ in range(30):
                    parts = list(alphabet) + ["<", ">", "a", "b", "be", "x", "?"] + [f"<{name}>" for name in names] * 2
                    text = "".join([parts[dice.below(len(parts))] for _ in range(dice.below(6))])
                    unknown = literal_unknown(alphabet, names, text)
                    if unknown is None:
                        self.assertEqual(tokenizer.text_of(tokenizer.numbers_of(text)), text)
                    else:
                        refused += 1
                        for call in (tokenizer.numbers_of, tokenizer.spans):
                            told_error(self, UnknownSign, lambda: call(text), sign=unknown[0], at=unknown[1])
        self.assertTrue(100 < refused < 900, refused)

    def test_numbers_that_are_none(self):
        for names, size in (((), 6), (("b", "c"), 8)):
            tokenizer = Tokenizer(Joins(*EXAMPLE), names)
            for numbers, piece in (((size,), size), ([0, -1, 99], -1), ((5, 5, HUGE), HUGE), ((size - 1, -HUGE, size), -HUGE)):
                told_error(self, NoPiece, lambda: tokenizer.text_of(numbers), piece=piece)
                self.assertIs(tokenizer.is_encoding(numbers), False)


class Promises(unittest.TestCase):
    def test_text_of_numbers_of_is_the_text(self):
        dice = Dice(53)
        for alphabet, pairs in tokenizer_lists(True):
            for names in NAMES:
                tokenizer = Tokenizer(Joins(alphabet, pairs), names)
                self.assertEqual(tokenizer.size, len(alphabet) + len(pairs) + len(names))
                for text in texts_with_marks(dice, alphabet, pairs, names):
                    numbers = tokenizer.numbers_of(text)
                    self.assertEqual(numbers, literal_numbers(alphabet, pairs, names, text))
                    self.assertEqual(tokenizer.text_of(numbers), text)
                    self.assertEqual(tokenizer.text_of(list(numbers)), text)
                    self.assertIs(tokenizer.is_encoding(numbers), True)
                    spans = tokenizer.spans(text)
                    self.assertEqual([text[begin:end] for begin, end in spans], [tokenizer.text_of((number,)) for number in numbers])
                    ends = (0,) + tuple([end for _, end in spans])
                    self.assertEqual([begin for begin, _ in spans], list(ends[:-1]))
                    self.assertEqual(ends[-1], len(text))

    def test_which_rows_are_encodings(self):
        for alphabet, pairs in tokenizer_lists(True):
            tokenizer = Tokenizer(Joins(alphabet, pairs), ("b",))
            longest = 3 if tokenizer.size < 9 else 2
            for many in range(longest + 1):
                for row in itertools.product(range(tokenizer.size), repeat=many):
                    expected = literal_numbers(alphabet, pairs, ("b",), tokenizer.text_of(row)) == row
                    self.assertIs(tokenizer.is_encoding(row), expected)

    def test_longer_rows_and_rows_of_any_integers(self):
        dice = Dice(59)
        encodings = 0
        for alphabet, pairs in tokenizer_lists(True):
            for names in NAMES[:3]:
                tokenizer = Tokenizer(Joins(alphabet, pairs), names)
                for text in texts_with_marks(dice, alphabet, pairs, names, 6):
                    row = list(tokenizer.numbers_of(text))
                    for _ in range(3):
                        row.insert(dice.below(len(row) + 1), dice.below(tokenizer.size))
                        expected = literal_numbers(alphabet, pairs, names, tokenizer.text_of(row)) == tuple(row)
                        self.assertIs(tokenizer.is_encoding(row), expected)
                        encodings += expected
                    row[dice.below(len(row))] = (-1, tokenizer.size, HUGE, -HUGE)[dice.below(4)]
                    self.assertIs(tokenizer.is_encoding(row), False)
        self.assertGreater(encodings, 200)


class Sizes(unittest.TestCase):
    def test_texts_of_200_signs_and_rows_of_200_numbers(self):
        dice = Dice(47)
        letters = " " + ALPHABET_OF_30[:29]
        lists = [SIXTY, DOUBLING, (letters, drawn_pairs(dice, letters, 60, 2000, False))]
        for alphabet, pairs in lists:
            tokenizer = Tokenizer(Joins(alphabet, pairs), NAMES[-1])
            pieces = literal_texts(alphabet, pairs)
            text = "".join([pieces[dice.below(len(pieces))] for _ in range(200)])[:200]
            for written in (text, alphabet[0] * 200, "<abcdefgh>" * 20, text[:190] + "<abcdefgh>"):
                with Quick(5):
                    numbers = tokenizer.numbers_of(written)
                    self.assertEqual(tokenizer.text_of(numbers), written)
                    self.assertIs(tokenizer.is_encoding(numbers), True)
                    self.assertEqual(len(tokenizer.spans(written)), len(numbers))
            with Quick(5):
                tokenizer.is_encoding([len(pieces) - 1, len(pieces) - 2] * 100)


if __name__ == "__main__":
    unittest.main()
