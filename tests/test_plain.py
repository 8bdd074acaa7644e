"""[8] and [9]: cutting, stages, splitting, history."""

import unittest

from rankedjoins.errors import InvalidNumber, NoPiece, UnknownSign
from rankedjoins.joinlists import Joins
from rankedjoins.plain import cut, history, join_all, letters_of, split, staged, text_of_row
from support import (DOUBLING, EXAMPLE, SIXTY, WRONG_NUMBERS, literal_cut, literal_pass, literal_texts, many_lists, rows_for,
                     texts_for)


class Cutting(unittest.TestCase):
    def setUp(self):
        self.joins = Joins(*EXAMPLE)

    def test_the_example_of_the_document(self):
        self.assertEqual(cut(self.joins, "aabcab"), (0, 4, 3))
        self.assertEqual([self.joins.text_of(piece) for piece in cut(self.joins, "aabcab")], ["a", "abc", "ab"])

    def test_letters_of(self):
        self.assertEqual(letters_of(self.joins, "cabbac"), (2, 0, 1, 1, 0, 2))
        self.assertEqual(letters_of(Joins(" |~", ()), "~ |"), (2, 0, 1))

    def test_the_empty_text_and_the_empty_row(self):
        self.assertEqual(letters_of(self.joins, ""), ())
        self.assertEqual(cut(self.joins, ""), ())
        self.assertEqual(text_of_row(self.joins, ()), "")
        self.assertEqual(text_of_row(self.joins, []), "")
        self.assertEqual(join_all(self.joins, (), 0), ())
        self.assertEqual(staged(self.joins, [], 3), ())
        self.assertEqual(split(self.joins, [], 0), ())
        self.assertEqual(history(self.joins, ""), ())

    def test_the_leftmost_place_goes_first(self):
        joins = Joins("a", ((0, 0),))
        self.assertEqual(cut(joins, "aaa"), (1, 0))
        self.assertEqual(cut(joins, "a" * 7), (1, 1, 1, 0))

    def test_the_lowest_rank_goes_first(self):
        joins = Joins("abc", ((1, 2), (0, 1)))
        self.assertEqual(cut(joins, "abc"), (0, 3))
        self.assertEqual(cut(joins, "ab"), (4,))

    def test_texts_of_200_letters(self):
        self.assertEqual(cut(Joins(*DOUBLING), "a" * 200), (5, 5, 5, 5, 5, 6))
        self.assertEqual(text_of_row(Joins(*SIXTY), cut(Joins(*SIXTY), "abcdefgh" * 25)), "abcdefgh" * 25)

    def test_text_of_row(self):
        self.assertEqual(text_of_row(self.joins, [5, 0, 4, 3]), "aaaabcab")

    def test_cut_is_what_the_document_says_step_by_step(self):
        for alphabet, pairs in many_lists():
            joins = Joins(alphabet, pairs)
            for text in texts_for(alphabet, pairs):
                row = cut(joins, text)
                self.assertEqual(row, literal_cut(alphabet, pairs, text))
                self.assertIs(row.__class__, tuple)
                self.assertEqual(text_of_row(joins, row), text)

    def test_unknown_signs(self):
        for call in (letters_of, cut, history):
            for text, sign, at in (("x", "x", 0), ("abx", "x", 2), ("aAyx", "A", 1), ("ab ", " ", 2), ("~" * 3, "~", 0)):
                with self.assertRaises(UnknownSign) as caught:
                    call(self.joins, text)
                self.assertEqual((caught.exception.sign, caught.exception.at), (sign, at))

    def test_rows_with_what_is_no_piece(self):
        for row, piece in (((6,), 6), ((0, -1, 7), -1), ([5, 10 ** 399], 10 ** 399), ((0, 1, 2, 6, -6), 6)):
            with self.assertRaises(NoPiece) as caught:
                text_of_row(self.joins, row)
            self.assertEqual(caught.exception.piece, piece)

    def test_arguments_by_name(self):
        self.assertEqual(letters_of(joins=self.joins, text="ab"), (0, 1))
        self.assertEqual(cut(text="ab", joins=self.joins), (3,))
        self.assertEqual(text_of_row(joins=self.joins, row=(3,)), "ab")
        self.assertEqual(join_all(joins=self.joins, row=(0, 1), rank=0), (3,))
        self.assertEqual(staged(joins=self.joins, row=(0, 1), many=1), (3,))
        self.assertEqual(split(joins=self.joins, row=(3,), many=0), (0, 1))
        self.assertEqual(history(joins=self.joins, text="ab"), ((0, (3,)),))


class Stages(unittest.TestCase):
    def setUp(self):
        self.joins = Joins(*EXAMPLE)

    def test_join_all_goes_once_from_left_to_right(self):
        self.assertEqual(join_all(self.joins, (0, 0, 0, 1, 0, 0), 2), (5, 0, 1, 5))
        self.assertEqual(join_all(self.joins, [0, 1, 2, 0, 1], 0), (3, 2, 3))
        self.assertEqual(join_all(self.joins, [0, 1, 2], 1), (0, 1, 2))
        self.assertEqual(join_all(Joins(*DOUBLING), (0,) * 5, 0), (1, 1, 0))
        self.assertEqual(join_all(Joins(*DOUBLING), (0, 1, 0, 0, 1), 0), (0, 1, 1, 1))

    def test_join_all_word_for_word_on_any_rows_of_pieces(self):
        for alphabet, pairs in many_lists():
            joins = Joins(alphabet, pairs)
            for row in rows_for(alphabet, pairs, 4):
                for rank in range(len(pairs)):
                    for doubled in (row, row + pairs[rank] * 2 + row):
                        expected = literal_pass(doubled, pairs[rank], len(alphabet) + rank)
                        self.assertEqual(join_all(joins, doubled, rank), expected)

    def test_staged(self):
        row = letters_of(self.joins, "aabcaa")
        stages = [staged(self.joins, row, many) for many in range(4)]
        self.assertEqual(stages, [(0, 0, 1, 2, 0, 0), (0, 3, 2, 0, 0), (0, 4, 0, 0), (0, 4, 5)])

    def test_staged_goes_on_from_any_row_of_pieces(self):
        self.assertEqual(staged(self.joins, [3, 2, 0, 1, 2], 1), (3, 2, 3, 2))
        self.assertEqual(staged(self.joins, [3, 2, 0, 1, 2], 3), (4, 4))

    def test_split(self):
        row = (4, 3, 5, 0)
        self.assertEqual(split(self.joins, row, 3), row)
        self.assertEqual(split(self.joins, row, 2), (4, 3, 0, 0, 0))
        self.assertEqual(split(self.joins, list(row), 1), (3, 2, 3, 0, 0, 0))
        self.assertEqual(split(self.joins, row, 0), (0, 1, 2, 0, 1, 0, 0, 0))
        self.assertEqual(split(Joins(*DOUBLING), (6,), 0), (0,) * 40)
        self.assertEqual(split(Joins(*DOUBLING), (6,), 2), (2,) * 10)

    def test_history(self):
        self.assertEqual(history(self.joins, "aabcaa"), ((0, (0, 3, 2, 0, 0)), (1, (0, 4, 0, 0)), (2, (0, 4, 5))))
        self.assertEqual(history(self.joins, "aac"), ((2, (5, 2)),))
        self.assertEqual(history(self.joins, "ba"), ())
        self.assertEqual(history(Joins("abc", ()), "abc"), ())

    def test_history_tells_each_rank_that_changes_the_row_and_no_other(self):
        for alphabet, pairs in many_lists():
            joins = Joins(alphabet, pairs)
            for text in texts_for(alphabet, pairs, 3):
                row = letters_of(joins, text)
                expected = []
                for rank, pair in enumerate(pairs):
                    after = literal_pass(row, pair, len(alphabet) + rank)
                    if after != row:
                        expected.append((rank, after))
                    row = after
                self.assertEqual(history(joins, text), tuple(expected))


class WrongNumbers(unittest.TestCase):
    def setUp(self):
        self.joins = Joins(*EXAMPLE)

    def refused(self, call, value):
        row = [0, 1, 2]
        with self.assertRaises(InvalidNumber) as caught:
            call(self.joins, row, value)
        self.assertIs(caught.exception.number, value)
        self.assertEqual(row, [0, 1, 2])

    def test_ranks(self):
        for value in WRONG_NUMBERS + (3, 4):
            self.refused(join_all, value)
        with self.assertRaises(InvalidNumber):
            join_all(Joins("a", ()), (0,), 0)

    def test_how_many(self):
        for value in WRONG_NUMBERS + (4, 5):
            self.refused(staged, value)
            self.refused(split, value)


class Promises(unittest.TestCase):
    def test_cut_is_staged_of_the_letters_by_all_joins(self):
        for alphabet, pairs in many_lists():
            joins = Joins(alphabet, pairs)
            for text in texts_for(alphabet, pairs):
                self.assertEqual(cut(joins, text), staged(joins, letters_of(joins, text), len(joins)))

    def test_the_cut_by_the_first_joins_is_staged_and_split(self):
        for alphabet, pairs in many_lists():
            joins = Joins(alphabet, pairs)
            texts = texts_for(alphabet, pairs, 4)
            for many in sorted(set([0, 1, len(pairs) // 2, len(pairs) - 1, len(pairs)]) & set(range(len(pairs) + 1))):
                first = joins.first(many)
                for text in texts:
                    row = cut(first, text)
                    self.assertEqual(row, literal_cut(alphabet, pairs[:many], text))
                    self.assertEqual(row, staged(joins, letters_of(joins, text), many))
                    self.assertEqual(row, split(joins, cut(joins, text), many))

    def test_nothing_that_is_passed_is_changed(self):
        joins = Joins(*EXAMPLE)
        row = [4, 0, 1, 0, 0]
        text_of_row(joins, row)
        join_all(joins, row, 0)
        staged(joins, row, 3)
        split(joins, row, 0)
        self.assertEqual(row, [4, 0, 1, 0, 0])
        self.assertEqual((joins.alphabet, joins.pairs), EXAMPLE)
        self.assertEqual([joins.text_of(piece) for piece in range(joins.pieces)], literal_texts(*EXAMPLE))


if __name__ == "__main__":
    unittest.main()
