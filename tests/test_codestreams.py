"""[32]: numbering a text with marks that is read little by little."""

import itertools
import unittest

from rankedjoins.codestreams import CodeStream
from rankedjoins.errors import UnknownSign
from rankedjoins.joinlists import Joins
from rankedjoins.tokenizers import Tokenizer
from support import (ALPHABET_OF_30, CHAIN_RIGHT, DOUBLING, EXAMPLE, NAMES, SIXTY, Dice, Quick, common_beginning,
                     drawn_pairs, endings_of, literal_texts, texts_with_marks, tokenizer_lists, told_error)


def going_on(marks, read, endings):
    """What was read, with its last mark finished in each way, followed by each of the endings."""
    begun = read[read.rfind("<"):] if read.rfind("<") > read.rfind(">") else ""
    heads = [read[:len(read) - len(begun)] + mark for mark in marks if mark.startswith(begun)] if begun else [read]
    return [head + ending for head in heads for ending in endings]


class Feeding(unittest.TestCase):
    def codes(self, names=("b", "be", "end"), alphabet="abc", pairs=EXAMPLE[1]):
        return CodeStream(Tokenizer(Joins(alphabet, pairs), names))

    def holds(self, codes, steps):
        """Feeds the texts one after the other: (text, numbers, told, waiting)."""
        for text, numbers, told, waiting in steps:
            self.assertEqual(codes.feed(text), numbers)
            self.assertEqual((codes.told, codes.waiting), (told, waiting))

    def test_pieces_and_marks(self):
        # The pieces a, b, c, ab, abc, aa are the numbers 0 to 5, the marks 6 to 8.
        codes = self.codes()
        self.holds(codes, (("a", (), 0, "a"), ("ab", (0,), 1, "ab"), ("<", (3,), 2, "<"), ("b", (), 2, "<b"), (">", (6,), 3, ""),
                           ("c", (2,), 4, ""), ("a<be>a", (0, 7), 6, "a")))
        self.assertEqual(codes.finish(), (0,))
        self.assertEqual((codes.told, codes.waiting), (0, ""))

    def test_a_mark_is_told_as_soon_as_only_one_begins_so(self):
        codes = self.codes()
        self.holds(codes, (("<", (), 0, "<"), ("e", (8,), 1, ""), ("n", (), 1, ""), ("d", (), 1, ""), (">", (), 1, ""),
                           ("a", (), 1, "a"), ("<be", (0, 7), 3, ""), (">", (), 3, ""), ("<b", (), 3, "<b"), (">", (6,), 4, "")))
        self.assertEqual(codes.finish(), ())
        codes = self.codes(("a",))
        self.holds(codes, (("<", (6,), 1, ""), ("a", (), 1, ""), ("><", (6,), 2, ""), ("a>b<a", (1, 6), 4, ""), (">", (), 4, "")))

    def test_names_of_which_one_begins_another(self):
        codes = self.codes(("abc", "a", "ab"))
        self.holds(codes, (("<a", (), 0, "<a"), ("b", (), 0, "<ab"), (">", (8,), 1, ""), ("<a>", (7,), 2, ""), ("<abc", (6,), 3, ""),
                           (">b", (1,), 4, "")))

    def test_marks_behind_marks_in_one_feed(self):
        codes = self.codes()
        self.holds(codes, (("<b><be><end><b>", (6, 7, 8, 6), 4, ""), ("<b><e", (6, 8), 6, ""), ("nd><b>c<b", (6, 2), 8, "<b")))
        told_error(self, UnknownSign, codes.finish, sign="<", at=len("<b><be><end><b><b><end><b>c"))
        self.holds(codes, (("e", (7,), 9, ""), (">", (), 9, "")))
        self.assertEqual(codes.finish(), ())

    def test_feeds_of_no_signs(self):
        codes = self.codes()
        self.holds(codes, (("", (), 0, ""), ("<", (), 0, "<"), ("", (), 0, "<"), ("e", (8,), 1, ""), ("", (), 1, ""), ("nd>a", (), 1, "a"),
                           ("", (), 1, "a")))
        codes = self.codes(())
        self.holds(codes, (("", (), 0, ""), ("aab", (0,), 1, "ab"), ("", (), 1, "ab")))

    def test_finish_twice_and_with_nothing_read(self):
        codes = self.codes()
        self.assertEqual((codes.finish(), codes.finish()), ((), ()))
        codes.feed("aab<b>ab")
        self.assertEqual((codes.finish(), codes.finish()), ((3,), ()))
        self.assertEqual((codes.told, codes.waiting), (0, ""))
        self.assertEqual((codes.feed("aab"), codes.finish()), ((0,), (3,)))

    def test_blanks_begin_chunks(self):
        # The pieces: blank, a, b, c; ab, " a", abc, " ab" are 4 to 7.
        codes = self.codes(("x", "y"), " abc", ((1, 2), (0, 1), (4, 3), (0, 4)))
        self.holds(codes, (("a", (), 0, "a"), (" ", (1,), 1, " "), (" ", (0,), 2, " "), ("ab", (), 2, " ab"), (" <", (7, 0), 4, "<"),
                           ("x", (8,), 5, ""), (">c ", (3,), 6, " "), ("c", (0, 3), 8, "")))

    def test_the_last_letter_may_be_sure_at_once(self):
        codes = self.codes(("b",), " a", ())
        self.holds(codes, (("a", (1,), 1, ""), (" ", (0,), 2, ""), ("  a", (0, 0, 1), 5, "")))

    def test_code_streams_know_nothing_of_each_other(self):
        tokenizer = Tokenizer(Joins(*EXAMPLE), ("b", "be"))
        first, second = CodeStream(tokenizer), CodeStream(tokenizer)
        first.feed("aab<b")
        self.assertEqual((second.told, second.waiting, second.finish()), (0, "", ()))
        self.assertEqual((first.told, first.waiting, first.feed(">"), first.finish()), (2, "<b", (6,), ()))

    def test_arguments_by_name_and_kinds_of_values(self):
        codes = CodeStream(tokenizer=Tokenizer(Joins(*EXAMPLE), ["b"]))
        for found in (codes.feed(text=""), codes.feed(text="abc"), codes.feed("<"), codes.feed("b>"), codes.finish(), codes.finish()):
            self.assertIs(found.__class__, tuple)


class WrongInputs(unittest.TestCase):
    def test_unknown_signs_change_nothing(self):
        tokenizer = Tokenizer(Joins(*EXAMPLE), ("b", "be", "end"))
        codes = CodeStream(tokenizer)
        for read, more, sign, at, then in (("", "x", "x", 0, "a"), ("aab", "cx", "x", 4, "c"), ("a<", "a", "<", 1, "b>"),
                                           ("a<b", "ex", "<", 1, ">c"), ("<b", "<", "<", 0, "e>"), ("<be", "e", "<", 0, ">"),
                                           ("aab<e", "nd>>", ">", 8, "nd>"), ("<e", "d", "<", 0, "nd><b>"), ("ab", ">", ">", 2, "c"),
                                           ("<b>a", "<<b>", "<", 4, "<b>"), ("<b><be>", " ", " ", 7, "ab"), ("c<", "<", "<", 1, "b>"),
                                           ("a", "<b>c<be<", "<", 5, ""), ("<b>", "a<x>", "<", 4, "c")):
            codes.finish()
            row = codes.feed(read)
            held = (codes.told, codes.waiting)
            for _ in range(2):
                told_error(self, UnknownSign, lambda: codes.feed(more), sign=sign, at=at)
                told_error(self, UnknownSign, lambda: tokenizer.numbers_of(read + more), sign=sign, at=at)
                self.assertEqual((codes.told, codes.waiting), held)
            row += codes.feed(then) + codes.finish()
            self.assertEqual(row, tokenizer.numbers_of(read + then))

    def test_places_count_from_the_first_sign_since_the_last_finish(self):
        codes = CodeStream(Tokenizer(Joins(*EXAMPLE), ("b",)))
        codes.feed("abcabc")
        codes.finish()
        codes.feed("ab")
        codes.feed("<b>")
        told_error(self, UnknownSign, lambda: codes.feed("c?"), sign="?", at=6)
        codes.feed("c")
        told_error(self, UnknownSign, lambda: codes.feed("?"), sign="?", at=6)
        codes.finish()
        told_error(self, UnknownSign, lambda: codes.feed("?"), sign="?", at=0)

    def test_finish_with_a_mark_that_is_not_finished(self):
        tokenizer = Tokenizer(Joins(*EXAMPLE), ("b", "be", "end"))
        for read, at in (("<", 0), ("<b", 0), ("aab<be", 3), ("<b>c<en", 4)):
            codes = CodeStream(tokenizer)
            row = codes.feed(read)
            held = (codes.told, codes.waiting)
            for _ in range(2):
                told_error(self, UnknownSign, codes.finish, sign="<", at=at)
                self.assertEqual((codes.told, codes.waiting), held)
            # Behind a feed that raises, finish refuses what was read ahead of it.
            told_error(self, UnknownSign, lambda: codes.feed("?"), sign="<", at=at)
            told_error(self, UnknownSign, codes.finish, sign="<", at=at)
            rest = [mark[len(read) - at:] for mark in tokenizer.marks if mark.startswith(read[at:])][-1]
            row += codes.feed(rest + "ab")
            self.assertEqual(row + codes.finish(), tokenizer.numbers_of(read + rest + "ab"))

    def test_finish_behind_a_feed_that_raised_tells_what_was_read(self):
        codes = CodeStream(Tokenizer(Joins(*EXAMPLE), ("b",)))
        self.assertEqual(codes.feed("aab"), (0,))
        told_error(self, UnknownSign, lambda: codes.feed("c<x"), sign="<", at=4)
        self.assertEqual(codes.finish(), (3,))
        self.assertEqual((codes.told, codes.waiting, codes.finish()), (0, "", ()))

    def test_without_marks(self):
        codes = CodeStream(Tokenizer(Joins(*EXAMPLE), ()))
        codes.feed("ab")
        told_error(self, UnknownSign, lambda: codes.feed("<"), sign="<", at=2)
        self.assertEqual((codes.waiting, codes.feed("c"), codes.finish()), ("ab", (4,), ()))


class Promises(unittest.TestCase):
    def test_each_number_is_told_at_the_very_sign_from_which_it_is_sure(self):
        dice = Dice(67)
        told = 0
        for alphabet, pairs in tokenizer_lists():
            endings = endings_of(alphabet, pairs)
            for names in NAMES:
                tokenizer = Tokenizer(Joins(alphabet, pairs), names)
                more = sorted(set(endings + list(alphabet) + list(tokenizer.marks) + [piece + mark for piece in endings
                                                                                     for mark in tokenizer.marks[:1]]))
                codes = CodeStream(tokenizer)
                for text in texts_with_marks(dice, alphabet, pairs, names, 3, 6):
                    row = ()
                    for at in range(len(text)):
                        row += codes.feed(text[at])
                        longer = going_on(tokenizer.marks, text[:at + 1], more)
                        self.assertEqual(row, common_beginning([tokenizer.numbers_of(found) for found in longer]))
                        self.assertEqual(codes.told, len(row))
                        written = tokenizer.text_of(row)
                        self.assertTrue(written.startswith(text[:at + 1]) or text.startswith(written))
                        self.assertEqual(codes.waiting, text[len(written):at + 1])
                    told += len(row)
                    self.assertEqual(row + codes.finish(), tokenizer.numbers_of(text))
        self.assertGreater(told, 500)

    def test_all_short_texts_and_all_that_go_on_a_little(self):
        tokenizer = Tokenizer(Joins(" a", ((1, 1), (0, 1))), ("a", "ab", "b"))
        units = list(" a") + list(tokenizer.marks)
        endings = ["".join(more) for many in range(4) for more in itertools.product(units, repeat=many)]
        texts = ["".join(signs) for many in range(3) for signs in itertools.product(units, repeat=many)]
        for text in sorted(set([text[:end] for text in texts for end in range(len(text) + 1)])):
            longer = going_on(tokenizer.marks, text, endings)
            self.assertEqual(CodeStream(tokenizer).feed(text), common_beginning([tokenizer.numbers_of(found) for found in longer]))

    def test_put_together_it_is_numbers_of_whatever_the_breaks(self):
        dice = Dice(71)
        for alphabet, pairs in tokenizer_lists():
            for names in NAMES:
                tokenizer = Tokenizer(Joins(alphabet, pairs), names)
                codes = CodeStream(tokenizer)
                for text in texts_with_marks(dice, alphabet, pairs, names, 4, 9):
                    for longest in (1, 3, 9, 200):
                        at = 0
                        row = ()
                        while at < len(text):
                            end = at + dice.below(longest + 1)
                            row += codes.feed(text[at:end])
                            at = min(end, len(text))
                            self.assertEqual(codes.told, len(row))
                            self.assertEqual(codes.waiting, text[len(tokenizer.text_of(row)):at])
                        self.assertEqual(row + codes.finish(), tokenizer.numbers_of(text))

    def test_drawn_signs_told_or_refused_at_the_very_sign(self):
        dice = Dice(73)
        refused = 0
        tokenizer = Tokenizer(Joins(*EXAMPLE), ("a", "ab", "cab", "cb"))
        for _ in range(400):
            codes = CodeStream(tokenizer)
            text = ""
            for _ in range(12):
                sign = "aabc<<>x"[dice.below(8 if dice.below(4) == 0 else 7)]
                begun = text[text.rfind("<"):] if text.rfind("<") > text.rfind(">") else ""
                fits = sign in "abc<" if not begun else any([mark.startswith(begun + sign) for mark in tokenizer.marks])
                if fits:
                    codes.feed(sign)
                    text += sign
                else:
                    refused += 1
                    with self.assertRaises(UnknownSign) as expected:
                        tokenizer.numbers_of(text + sign)
                    told_error(self, UnknownSign, lambda: codes.feed(sign), sign=expected.exception.sign, at=expected.exception.at)
        self.assertGreater(refused, 500)


class Sizes(unittest.TestCase):
    def test_200_signs_one_by_one_and_at_once(self):
        dice = Dice(79)
        letters = " " + ALPHABET_OF_30[:29]
        lists = [SIXTY, DOUBLING, CHAIN_RIGHT, (letters, drawn_pairs(dice, letters, 60, 2000, False))]
        for alphabet, pairs in lists:
            tokenizer = Tokenizer(Joins(alphabet, pairs), NAMES[-1])
            pieces = literal_texts(alphabet, pairs)
            text = "".join([pieces[dice.below(len(pieces))] for _ in range(200)])[:200]
            for written in (text, alphabet[0] * 200, "<abcdefgh>" * 20, text[:150] + "<abcdefgh>" + text[150:190]):
                codes = CodeStream(tokenizer)
                expected = tokenizer.numbers_of(written)
                with Quick(5):
                    row = ()
                    for sign in written:
                        row += codes.feed(sign)
                    self.assertEqual(row + codes.finish(), expected)
                    self.assertEqual(codes.feed(written) + codes.finish(), expected)


if __name__ == "__main__":
    unittest.main()
