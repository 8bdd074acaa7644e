"""[12]: rows that are cuts, and why others are not."""

import unittest

from rankedjoins.errors import NoPiece
from rankedjoins.joinlists import Joins
from rankedjoins.judges import is_cut, judge, reason
from rankedjoins.pairs import side_by_side
from rankedjoins.plain import cut, text_of_row
from support import EXAMPLE, HUGE, first_joining, literal_texts, many_lists, rows_for, texts_for


class IsCut(unittest.TestCase):
    def test_the_example(self):
        joins = Joins(*EXAMPLE)
        for row in ((0, 4, 3), [0, 4, 3], (4, 4), (5, 4), (2, 1, 0)):
            self.assertIs(is_cut(joins, row), True, row)
        for row in ((0, 1), [5, 1], (3, 2), (0, 0), (0, 4, 3, 2)):
            self.assertIs(is_cut(joins, row), False, row)

    def test_rows_of_no_piece_and_of_one_piece(self):
        joins = Joins(*EXAMPLE)
        self.assertIs(is_cut(joins, ()), True)
        self.assertIs(is_cut(joins, []), True)
        for piece in range(6):
            self.assertIs(is_cut(joins, (piece,)), True)

    def test_integers_that_are_no_pieces(self):
        joins = Joins(*EXAMPLE)
        for wrong in (-1, -6, 6, 7, HUGE, -HUGE):
            for row in ((wrong,), [wrong], (0, wrong), (wrong, 0), (0, 4, wrong, 3), (wrong, wrong)):
                self.assertIs(is_cut(joins, row), False, row)


class Reason(unittest.TestCase):
    def test_the_example(self):
        joins = Joins(*EXAMPLE)
        self.assertIsNone(reason(joins, (0, 4, 3)))
        self.assertEqual(reason(joins, (0, 1)), (0, 0))
        self.assertEqual(reason(joins, [4, 3, 2]), (1, 1))
        self.assertEqual(reason(joins, (0, 0, 3, 2, 5, 1)), (4, 0))

    def test_the_lowest_rank_wins_and_of_its_places_the_lowest(self):
        joins = Joins(*EXAMPLE)
        self.assertEqual(reason(joins, (3, 2, 2, 3, 2)), (0, 1))
        self.assertEqual(reason(joins, (3, 2, 0, 1, 0, 1)), (2, 0))

    def test_rows_of_no_piece_and_of_one_piece(self):
        joins = Joins(*EXAMPLE)
        self.assertIsNone(reason(joins, ()))
        self.assertIsNone(reason(joins, []))
        for piece in range(6):
            self.assertIsNone(reason(joins, [piece]))

    def test_integers_that_are_no_pieces(self):
        joins = Joins(*EXAMPLE)
        for row, piece in (((6,), 6), ((0, 1, -1, 9), -1), ([HUGE, 0], HUGE), ((0, 4, 3, -HUGE), -HUGE), ((7, 6), 7)):
            with self.assertRaises(NoPiece) as caught:
                reason(joins, row)
            self.assertEqual(caught.exception.piece, piece)


class Judge(unittest.TestCase):
    def test_the_example(self):
        joins = Joins(*EXAMPLE)
        self.assertIs(judge(joins, "aabcab", (0, 4, 3)), True)
        self.assertIs(judge(joins, "aabcab", [0, 4, 3]), True)
        self.assertIs(judge(joins, "aabca", (0, 4, 3)), False)
        self.assertIs(judge(joins, "ab", (0, 1)), False)
        self.assertIs(judge(joins, "", ()), True)
        self.assertIs(judge(joins, "", (0,)), False)
        self.assertIs(judge(joins, "a", ()), False)

    def test_texts_with_signs_that_are_no_letters(self):
        joins = Joins(*EXAMPLE)
        for text in ("x", "aabcabx", " ", "A", "aabxab"):
            for row in ((), (0,), (0, 4, 3), (6,), (-1, HUGE)):
                self.assertIs(judge(joins, text, row), False)

    def test_rows_with_integers_that_are_no_pieces(self):
        joins = Joins(*EXAMPLE)
        for row in ((6,), (-1,), (HUGE,), (0, -6)):
            self.assertIs(judge(joins, "c", row), False)

    def test_arguments_by_name_and_nothing_changed(self):
        joins = Joins(*EXAMPLE)
        row = [0, 1, 2]
        self.assertIs(is_cut(joins=joins, row=row), False)
        self.assertEqual(reason(joins=joins, row=row), (0, 0))
        self.assertIs(judge(joins=joins, text="abc", row=row), False)
        self.assertEqual(row, [0, 1, 2])


class Promises(unittest.TestCase):
    def test_cuts_are_cuts(self):
        for alphabet, pairs in many_lists():
            joins = Joins(alphabet, pairs)
            for text in texts_for(alphabet, pairs):
                row = cut(joins, text)
                self.assertIs(is_cut(joins, row), True)
                self.assertIsNone(reason(joins, row))
                self.assertIs(judge(joins, text, row), True)
                self.assertIs(judge(joins, text + alphabet[0], row), False)

    def test_a_row_is_a_cut_just_if_every_two_neighbors_are_side_by_side(self):
        cuts = 0
        for alphabet, pairs in many_lists():
            joins = Joins(alphabet, pairs)
            texts = literal_texts(alphabet, pairs)
            for row in rows_for(alphabet, pairs, 40):
                text = text_of_row(joins, row)
                expected = cut(joins, text) == row
                together = all([side_by_side(joins, left, right) for left, right in zip(row, row[1:])])
                self.assertEqual(together, expected)
                self.assertIs(is_cut(joins, row), expected)
                self.assertIs(judge(joins, text, row), expected)
                self.assertEqual(reason(joins, row), first_joining(alphabet, pairs, [texts[piece] for piece in row]))
                self.assertEqual(reason(joins, list(row)) is None, expected)
                cuts += expected
        self.assertGreater(cuts, 200)


if __name__ == "__main__":
    unittest.main()
