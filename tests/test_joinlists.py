"""[5] and [6], with [1] to [3] as far as they speak of lists of joins."""

import unittest

from rankedjoins.errors import InvalidAlphabet, InvalidNumber, NoPiece, NotProper
from rankedjoins.joinlists import Joins
from rankedjoins.plain import cut
from support import (ALPHABET_OF_30, ALPHABET_OF_31, DOUBLING, EXAMPLE, SIXTY, WRONG_NUMBERS, Dice, drawn_pairs,
                     literal_cut, literal_texts, many_lists)


class Alphabets(unittest.TestCase):
    def test_alphabets_of_1_and_30_letters(self):
        for alphabet in ("a", " ", "~", "|", " ~", "ab", ALPHABET_OF_30):
            self.assertEqual(Joins(alphabet, ()).alphabet, alphabet)

    def test_wrong_alphabets(self):
        for alphabet in ("", ALPHABET_OF_31, "ba", "aa", "aba", "abb", "a\n", "\n", "\x7f", "a\x7f", "\xe9", "a\u20ac"):
            with self.assertRaises(InvalidAlphabet) as caught:
                Joins(alphabet, ())
            self.assertIs(caught.exception.alphabet, alphabet)

    def test_the_alphabet_is_checked_ahead_of_the_pairs(self):
        with self.assertRaises(InvalidAlphabet):
            Joins("ba", ((7, 7),))


class Properness(unittest.TestCase):
    def rank_of_fault(self, alphabet, pairs):
        with self.assertRaises(NotProper) as caught:
            Joins(alphabet, pairs)
        return caught.exception.rank

    def test_parts_that_are_no_pieces_yet(self):
        for wrong in (-1, 2, 3, 10 ** 399, -10 ** 399):
            self.assertEqual(self.rank_of_fault("ab", ((wrong, 0),)), 0)
            self.assertEqual(self.rank_of_fault("ab", ((0, wrong),)), 0)
        self.assertEqual(self.rank_of_fault("ab", ((0, 1), (3, 0))), 1)
        self.assertEqual(self.rank_of_fault("ab", ((0, 1), (0, 3))), 1)
        self.assertEqual(self.rank_of_fault("ab", ((0, 1), (2, 1), (-1, 0))), 2)
        self.assertEqual(len(Joins("ab", ((0, 1), (2, 0)))), 2)

    def test_a_bool_is_no_integer(self):
        self.assertEqual(self.rank_of_fault("ab", ((True, 0),)), 0)
        self.assertEqual(self.rank_of_fault("ab", ((0, False),)), 0)

    def test_a_pair_that_stands_twice(self):
        self.assertEqual(self.rank_of_fault("ab", ((0, 1), (1, 0), (0, 1))), 2)

    def test_a_pair_that_lower_joins_cut_otherwise(self):
        self.assertEqual(self.rank_of_fault("a", ((0, 0), (1, 0), (2, 1))), 2)
        self.assertEqual(self.rank_of_fault("abc", ((0, 1), (1, 2), (0, 4))), 2)
        self.assertEqual(self.rank_of_fault("a", ((0, 0), (0, 1))), 1)

    def test_a_pair_that_only_later_joins_cut_otherwise_is_proper(self):
        self.assertEqual(len(Joins("abc", ((1, 2), (0, 3), (0, 1)))), 3)

    def test_the_lowest_wrong_rank_is_told(self):
        self.assertEqual(self.rank_of_fault("ab", ((0, 1), (0, 1), (9, 9))), 1)

    def test_texts_of_40_and_of_41_letters(self):
        joins = Joins(*DOUBLING)
        self.assertEqual(joins.text_of(6), "a" * 40)
        self.assertEqual(self.rank_of_fault("a", DOUBLING[1] + ((6, 0),)), 6)
        self.assertEqual(literal_cut("a", DOUBLING[1], "a" * 41), (6, 0))
        self.assertEqual(self.rank_of_fault("a", DOUBLING[1][:5] + ((5, 5),)), 5)

    def test_lists_of_60_joins(self):
        self.assertEqual(len(Joins(*SIXTY)), 60)

    def test_drawn_pairs_are_refused_just_if_the_document_refuses_them(self):
        dice = Dice(5)
        refused = 0
        for alphabet in ("a", "ab", "abc"):
            for many in (0, 1, 3, 6, 10):
                pairs = drawn_pairs(dice, alphabet, many)
                texts = literal_texts(alphabet, pairs)
                for _ in range(25):
                    pair = (dice.below(len(texts)), dice.below(len(texts)))
                    text = texts[pair[0]] + texts[pair[1]]
                    if len(text) <= 40 and literal_cut(alphabet, pairs, text) == pair:
                        self.assertEqual(Joins(alphabet, pairs + (pair,)).pairs, pairs + (pair,))
                    else:
                        refused += 1
                        self.assertEqual(self.rank_of_fault(alphabet, pairs + (pair,)), len(pairs))
        self.assertGreater(refused, 50)


class Members(unittest.TestCase):
    def setUp(self):
        self.joins = Joins(*EXAMPLE)

    def test_alphabet_pairs_length_and_iteration(self):
        self.assertEqual(self.joins.alphabet, "abc")
        self.assertEqual(self.joins.pairs, ((0, 1), (3, 2), (0, 0)))
        self.assertEqual(len(self.joins), 3)
        self.assertEqual(list(self.joins), [(0, 1), (3, 2), (0, 0)])
        self.assertEqual(self.joins.pieces, 6)

    def test_no_join(self):
        joins = Joins("ab", [])
        self.assertEqual((joins.pairs, len(joins), list(joins), joins.pieces), ((), 0, [], 2))

    def test_tuples_whatever_is_passed_and_no_effect_of_later_changes(self):
        pairs = [[0, 1], [3, 2], (0, 0)]
        joins = Joins(alphabet="abc", pairs=pairs)
        self.assertEqual(pairs, [[0, 1], [3, 2], (0, 0)])
        pairs[0][0] = 2
        pairs.pop()
        self.assertEqual(joins.pairs, ((0, 1), (3, 2), (0, 0)))
        self.assertEqual([kind.__class__ for kind in (joins.pairs,) + joins.pairs], [tuple] * 4)
        self.assertEqual(joins, self.joins)
        self.assertEqual(cut(joins, "aabcab"), (0, 4, 3))

    def test_text_of(self):
        texts = [self.joins.text_of(piece) for piece in range(6)]
        self.assertEqual(texts, ["a", "b", "c", "ab", "abc", "aa"])

    def test_parts_of(self):
        parts = [self.joins.parts_of(piece) for piece in range(6)]
        self.assertEqual(parts, [None, None, None, (0, 1), (3, 2), (0, 0)])

    def test_rank_of(self):
        found = {}
        for left in range(6):
            for right in range(6):
                rank = self.joins.rank_of(left, right)
                if rank is not None:
                    found[(left, right)] = rank
        self.assertEqual(found, {(0, 1): 0, (3, 2): 1, (0, 0): 2})

    def test_piece_of(self):
        for piece in range(6):
            self.assertEqual(self.joins.piece_of(self.joins.text_of(piece)), piece)
        for text in ("", "bc", "aab", "x", "A", " ", "a" * 200):
            self.assertIsNone(self.joins.piece_of(text))

    def test_first(self):
        for many in range(4):
            first = self.joins.first(many)
            self.assertEqual((first.alphabet, first.pairs), ("abc", EXAMPLE[1][:many]))
        self.assertEqual(self.joins.first(3), self.joins)
        self.assertEqual(len(self.joins), 3)

    def test_equality(self):
        self.assertTrue(self.joins == Joins("abc", [[0, 1], [3, 2], [0, 0]]))
        self.assertFalse(self.joins != Joins("abc", [[0, 1], [3, 2], [0, 0]]))
        others = (Joins("abc", EXAMPLE[1][:2]), Joins("abc", ((0, 1), (3, 2), (1, 1))), Joins("abcd", ()), Joins("abc", ()),
                  "abc", EXAMPLE, EXAMPLE[1], None, 3, list(EXAMPLE[1]))
        for other in others:
            self.assertIs(self.joins == other, False)
            self.assertIs(self.joins != other, True)
        self.assertNotEqual(Joins("abc", ()), Joins("abd", ()))

    def test_arguments_by_name(self):
        self.assertEqual(self.joins.text_of(piece=4), "abc")
        self.assertEqual(self.joins.parts_of(piece=4), (3, 2))
        self.assertEqual(self.joins.rank_of(right=2, left=3), 1)
        self.assertEqual(self.joins.piece_of(text="abc"), 4)
        self.assertEqual(self.joins.first(many=1).pairs, ((0, 1),))


class WrongValues(unittest.TestCase):
    def setUp(self):
        self.joins = Joins(*EXAMPLE)

    def no_piece(self, value, call, *arguments):
        with self.assertRaises(NoPiece) as caught:
            call(*arguments)
        self.assertIs(caught.exception.piece, value)

    def test_values_that_are_no_pieces(self):
        for value in WRONG_NUMBERS + (6, 7):
            self.no_piece(value, self.joins.text_of, value)
            self.no_piece(value, self.joins.parts_of, value)
            self.no_piece(value, self.joins.rank_of, value, 0)
            self.no_piece(value, self.joins.rank_of, 0, value)

    def test_left_is_checked_ahead_of_right(self):
        self.no_piece(9, self.joins.rank_of, 9, 8)
        for value in WRONG_NUMBERS:
            self.no_piece(value, self.joins.rank_of, value, [9])

    def test_values_that_first_refuses(self):
        for value in WRONG_NUMBERS + (4, 5):
            with self.assertRaises(InvalidNumber) as caught:
                self.joins.first(value)
            self.assertIs(caught.exception.number, value)
        self.assertEqual((self.joins.pairs, self.joins.pieces), (EXAMPLE[1], 6))


class Promises(unittest.TestCase):
    def test_pieces_have_distinct_texts_and_their_cut_is_the_piece_alone(self):
        for alphabet, pairs in many_lists():
            joins = Joins(alphabet, pairs)
            texts = [joins.text_of(piece) for piece in range(joins.pieces)]
            self.assertEqual(texts, literal_texts(alphabet, pairs))
            self.assertEqual(len(set(texts)), joins.pieces)
            for piece, text in enumerate(texts):
                self.assertEqual(literal_cut(alphabet, pairs, text), (piece,))
                self.assertEqual(cut(joins, text), (piece,))
                self.assertEqual(joins.piece_of(text), piece)


if __name__ == "__main__":
    unittest.main()
