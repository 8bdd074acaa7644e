"""[11]: spines, crossing, side by side."""

import unittest

from rankedjoins.errors import NoPiece
from rankedjoins.joinlists import Joins
from rankedjoins.pairs import choices_behind, crossing, following_masks, left_spine, right_spine, side_by_side
from rankedjoins.plain import cut
from support import CHAIN_LEFT, CHAIN_RIGHT, EXAMPLE, WRONG_NUMBERS, Dice, first_joining, literal_texts, many_lists


class Spines(unittest.TestCase):
    def test_the_spines_of_the_example(self):
        joins = Joins(*EXAMPLE)
        self.assertEqual(right_spine(joins, 4), ((4, None), (2, 1)))
        self.assertEqual(left_spine(joins, 4), ((4, None), (3, 1), (0, 0)))
        for piece in (0, 1, 2):
            self.assertEqual(right_spine(joins, piece), ((piece, None),))
            self.assertEqual(left_spine(joins, piece), ((piece, None),))
        self.assertEqual(right_spine(joins, 5), ((5, None), (0, 2)))

    def test_long_spines(self):
        joins = Joins(*CHAIN_RIGHT)
        last = joins.pieces - 1
        self.assertEqual(len(joins.text_of(last)), 30)
        self.assertEqual(right_spine(joins, last), ((last, None), (29, 28)))
        self.assertEqual(len(left_spine(joins, last)), 30)
        self.assertEqual(left_spine(joins, last)[-1], (0, 0))
        joins = Joins(*CHAIN_LEFT)
        self.assertEqual(left_spine(joins, last), ((last, None), (0, 28)))
        self.assertEqual(len(right_spine(joins, last)), 30)

    def test_spines_of_many_lists(self):
        for alphabet, pairs in many_lists():
            joins = Joins(alphabet, pairs)
            for piece in range(joins.pieces):
                for side, call in ((1, right_spine), (0, left_spine)):
                    expected = [(piece, None)]
                    x = piece
                    while x >= len(alphabet):
                        rank = x - len(alphabet)
                        x = pairs[rank][side]
                        expected.append((x, rank))
                    self.assertEqual(call(joins, piece), tuple(expected))


class Crossing(unittest.TestCase):
    def test_the_example(self):
        joins = Joins(*EXAMPLE)
        self.assertEqual(crossing(joins, 0, 1), 0)
        self.assertEqual(crossing(joins, 3, 2), 1)
        self.assertEqual(crossing(joins, 5, 1), 0)
        self.assertIsNone(crossing(joins, 0, 4))
        self.assertIsNone(crossing(joins, 4, 3))
        self.assertIs(side_by_side(joins, 0, 4), True)
        self.assertIs(side_by_side(joins, 5, 1), False)

    def test_equal_ranks_are_decided_by_the_leftmost_place(self):
        joins = Joins("a", ((0, 0),))
        self.assertEqual(crossing(joins, 0, 1), 0)
        self.assertIsNone(crossing(joins, 1, 0))
        self.assertIsNone(crossing(joins, 1, 1))

    def test_no_join(self):
        joins = Joins("ab", ())
        for left in (0, 1):
            for right in (0, 1):
                self.assertIsNone(crossing(joins, left, right))
                self.assertIs(side_by_side(joins, left, right), True)

    def test_arguments_by_name(self):
        joins = Joins(*EXAMPLE)
        self.assertEqual(right_spine(joins=joins, piece=0), ((0, None),))
        self.assertEqual(left_spine(joins=joins, piece=0), ((0, None),))
        self.assertEqual(crossing(joins=joins, left=0, right=1), 0)
        self.assertIs(side_by_side(joins=joins, right=1, left=0), False)


class WrongInputs(unittest.TestCase):
    def no_piece(self, value, call, *arguments):
        with self.assertRaises(NoPiece) as caught:
            call(Joins(*EXAMPLE), *arguments)
        self.assertIs(caught.exception.piece, value)

    def test_values_that_are_no_pieces(self):
        for value in WRONG_NUMBERS + (6, 7):
            self.no_piece(value, right_spine, value)
            self.no_piece(value, left_spine, value)
            for call in (crossing, side_by_side):
                self.no_piece(value, call, value, 0)
                self.no_piece(value, call, 0, value)

    def test_left_is_checked_ahead_of_right(self):
        for value in WRONG_NUMBERS:
            self.no_piece(value, crossing, value, [9])
            self.no_piece(value, side_by_side, value, [9])


class Promises(unittest.TestCase):
    def test_side_by_side_just_if_the_cut_of_their_text_is_these_two(self):
        dice = Dice(41)
        apart = 0
        for alphabet, pairs in many_lists():
            joins = Joins(alphabet, pairs)
            texts = literal_texts(alphabet, pairs)
            for left in range(joins.pieces):
                for right in [dice.below(joins.pieces) for _ in range(12)]:
                    is_cut = cut(joins, texts[left] + texts[right]) == (left, right)
                    self.assertIs(side_by_side(joins, left, right), is_cut)
                    apart += is_cut
                    first = first_joining(alphabet, pairs, (texts[left], texts[right]))
                    self.assertEqual(crossing(joins, left, right), first and first[1])
                    self.assertEqual(first is None, is_cut)
        self.assertGreater(apart, 1000)


class AllPairs(unittest.TestCase):
    def test_the_tables_tell_the_same_as_side_by_side(self):
        dice = Dice(61)
        for alphabet, pairs in many_lists():
            joins = Joins(alphabet, pairs)
            masks = following_masks(joins)
            choices = choices_behind(joins)
            self.assertEqual((len(masks), len(choices)), (joins.pieces, joins.pieces + 1))
            self.assertEqual(choices[-1], tuple(range(joins.pieces)))
            for left in range(joins.pieces):
                self.assertEqual(choices[left], tuple([right for right in range(joins.pieces) if masks[left] >> right & 1]))
                for right in [dice.below(joins.pieces) for _ in range(12)]:
                    self.assertIs(right in choices[left], side_by_side(joins, left, right))


if __name__ == "__main__":
    unittest.main()
