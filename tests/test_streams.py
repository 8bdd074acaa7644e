"""[14]: streams."""

import unittest

from rankedjoins.errors import UnknownSign
from rankedjoins.joinlists import Joins
from rankedjoins.plain import cut
from rankedjoins.streams import Stream
from support import (CHAIN_RIGHT, DOUBLING, EXAMPLE, Dice, Quick, common_beginning, endings_of, large_lists, literal_cut,
                     literal_texts, many_lists, small_lists, sure_row, texts_for, texts_up_to)


class Feeding(unittest.TestCase):
    def test_the_example_of_the_document(self):
        stream = Stream(Joins(*EXAMPLE))
        self.assertEqual((stream.feed("aab"), stream.feed("c"), stream.finish()), ((0,), (4,), ()))

    def test_told_and_waiting(self):
        stream = Stream(Joins(*EXAMPLE))
        self.assertEqual((stream.told, stream.waiting), (0, ""))
        for text, row, told, waiting in (("a", (), 0, "a"), ("a", (), 0, "aa"), ("b", (0,), 1, "ab"), ("c", (4,), 2, ""),
                                         ("ab", (), 2, "ab"), ("", (), 2, "ab"), ("ba", (3, 1), 4, "a"), ("c", (0, 2), 6, "")):
            self.assertEqual(stream.feed(text), row)
            self.assertEqual((stream.told, stream.waiting), (told, waiting))
        self.assertEqual(stream.finish(), ())
        self.assertEqual((stream.told, stream.waiting), (0, ""))

    def test_the_last_letter_may_be_sure_at_once(self):
        stream = Stream(Joins("ab", ()))
        self.assertEqual([stream.feed(sign) for sign in "abba"], [(0,), (1,), (1,), (0,)])
        self.assertEqual((stream.told, stream.waiting, stream.finish()), (4, "", ()))

    def test_one_feed_may_tell_many_pieces(self):
        stream = Stream(Joins(*EXAMPLE))
        self.assertEqual(stream.feed("aabcab"), (0, 4))
        self.assertEqual(stream.finish(), (3,))

    def test_pieces_that_stay_open(self):
        stream = Stream(Joins("a", ((0, 0),)))
        self.assertEqual([stream.feed("a") for _ in range(5)], [(), (1,), (), (1,), ()])
        self.assertEqual(stream.finish(), (0,))

    def test_what_is_far_behind_changes_what_is_ahead(self):
        # Each letter joins with the next one, the last ones first: only the end tells how all are paired.
        letters = "abcdefghijkl"
        joins = Joins(letters, tuple([(left, left + 1) for left in reversed(range(11))]))
        stream = Stream(joins)
        self.assertEqual([stream.feed(sign) for sign in letters[:-1]], [()] * 11)
        self.assertEqual(stream.waiting, letters[:-1])
        self.assertEqual(stream.feed("l"), cut(joins, letters))
        stream.finish()
        self.assertEqual(stream.feed(letters[:-1]), ())
        self.assertEqual(stream.feed("a"), cut(joins, letters[:-1]))

    def test_feeds_without_letters(self):
        stream = Stream(Joins(*EXAMPLE))
        self.assertEqual(stream.feed(""), ())
        self.assertEqual((stream.told, stream.waiting), (0, ""))
        self.assertEqual([stream.feed(text) for text in ("a", "", "ab", "", "")], [(), (), (0,), (), ()])
        self.assertEqual((stream.told, stream.waiting), (1, "ab"))
        self.assertEqual((stream.feed("c"), stream.feed("")), ((4,), ()))

    def test_finish_with_nothing_read_and_twice(self):
        stream = Stream(Joins(*EXAMPLE))
        self.assertEqual((stream.finish(), stream.finish()), ((), ()))
        stream.feed("aab")
        self.assertEqual((stream.finish(), stream.finish()), ((3,), ()))
        self.assertEqual((stream.told, stream.waiting), (0, ""))
        self.assertEqual((stream.feed("aab"), stream.finish()), ((0,), (3,)))

    def test_streams_know_nothing_of_each_other(self):
        joins = Joins(*EXAMPLE)
        first, second = Stream(joins), Stream(joins)
        first.feed("aab")
        self.assertEqual((second.told, second.waiting, second.finish()), (0, "", ()))
        self.assertEqual((first.told, first.waiting, first.finish()), (1, "ab", (3,)))

    def test_arguments_by_name_and_kinds_of_values(self):
        stream = Stream(joins=Joins(*EXAMPLE))
        self.assertIs(stream.feed(text="aabc").__class__, tuple)
        self.assertIs(stream.finish().__class__, tuple)


class WrongInputs(unittest.TestCase):
    def test_unknown_signs_change_nothing(self):
        stream = Stream(Joins(*EXAMPLE))
        for text, sign, at in (("x", "x", 0), ("abx", "x", 2), ("aAyx", "A", 1), ("abc ", " ", 3)):
            for ahead in ("", "a", "aab", "aabca"):
                stream.finish()
                stream.feed(ahead)
                told, waiting = stream.told, stream.waiting
                for _ in range(2):
                    with self.assertRaises(UnknownSign) as caught:
                        stream.feed(text)
                    self.assertEqual((caught.exception.sign, caught.exception.at), (sign, at))
                    self.assertEqual((stream.told, stream.waiting), (told, waiting))
                fed = cut(Joins(*EXAMPLE), ahead + "bc")
                rest = stream.feed("bc") + stream.finish()
                self.assertEqual(rest, fed[told:])


class Promises(unittest.TestCase):
    def test_put_together_it_is_the_cut_whatever_the_breaks(self):
        dice = Dice(57)
        for alphabet, pairs in many_lists():
            stream = Stream(Joins(alphabet, pairs))
            for text in texts_for(alphabet, pairs):
                expected = literal_cut(alphabet, pairs, text)
                pieces = literal_texts(alphabet, pairs)
                for longest in (1, 4, 15, 200):
                    at = 0
                    row = ()
                    while at < len(text):
                        end = at + dice.below(longest + 1)
                        row += stream.feed(text[at:end])
                        at = min(end, len(text))
                        told = "".join([pieces[piece] for piece in row])
                        self.assertEqual((stream.told, told + stream.waiting), (len(row), text[:at]))
                    self.assertEqual(row + stream.finish(), expected)

    def test_each_piece_is_told_at_the_very_letter_from_which_it_is_sure(self):
        told_early = 0
        for alphabet, pairs in small_lists() + [CHAIN_RIGHT]:
            joins = Joins(alphabet, pairs)
            endings = endings_of(alphabet, pairs)
            stream = Stream(joins)
            for text in texts_for(alphabet, pairs, 3, 16):
                row = ()
                for at, sign in enumerate(text):
                    row += stream.feed(sign)
                    self.assertEqual(row, sure_row(joins, endings, text[:at + 1]))
                told_early += len(row)
                self.assertEqual(row + stream.finish(), cut(joins, text))
        self.assertGreater(told_early, 500)

    def test_for_short_texts_all_that_go_on_are_cut(self):
        for alphabet, pairs in small_lists():
            joins = Joins(alphabet, pairs)
            longest = max([len(text) for text in literal_texts(alphabet, pairs)])
            many = min(longest - 1, {1: 9, 2: 6, 3: 3}[len(alphabet)])
            endings = texts_up_to(alphabet, many)
            for text in texts_up_to(alphabet, 3):
                rows = [cut(joins, text + ending) for ending in endings]
                row = Stream(joins).feed(text)
                self.assertEqual(row, common_beginning(rows)[:len(row)])
                if many == longest - 1:
                    self.assertEqual(row, common_beginning(rows))

    def test_large_lists_tell_at_the_very_letter_too(self):
        dice = Dice(3)
        for alphabet, pairs in large_lists():
            pieces = literal_texts(alphabet, pairs)
            endings = endings_of(alphabet, pairs)
            joins = Joins(alphabet, pairs)
            stream = Stream(joins)
            text = "".join([pieces[dice.below(len(pieces))] for _ in range(3)])[:45]
            row = ()
            for at in range(0, len(text), 9):
                row += stream.feed(text[at:at + 9])
                self.assertEqual(row, sure_row(joins, endings, text[:at + 9]))


class Sizes(unittest.TestCase):
    def test_200_letters_one_by_one(self):
        dice = Dice(8)
        for alphabet, pairs in large_lists():
            joins = Joins(alphabet, pairs)
            pieces = literal_texts(alphabet, pairs)
            text = "".join([pieces[dice.below(len(pieces))] for _ in range(200)])[:200]
            stream = Stream(joins)
            for letters in (text, alphabet[0] * 200):
                with Quick(5):
                    row = ()
                    for sign in letters:
                        row += stream.feed(sign)
                    self.assertEqual(row + stream.finish(), cut(joins, letters))

    def test_200_letters_at_once(self):
        stream = Stream(Joins(*DOUBLING))
        row = stream.feed("a" * 200)
        self.assertEqual(row + stream.finish(), cut(Joins(*DOUBLING), "a" * 200))


if __name__ == "__main__":
    unittest.main()
