"""[31]: places of a text."""

import unittest

from rankedjoins.errors import NoPiece
from rankedjoins.joinlists import Joins
from rankedjoins.searching import places_of
from support import (DOUBLING, EXAMPLE, HUGE, Dice, Quick, large_lists, literal_texts, many_lists, rows_for, texts_up_to,
                     told_error)


class Places(unittest.TestCase):
    def setUp(self):
        # Of the example: a, b, c, ab, abc, aa are the pieces 0 to 5.
        self.joins = Joins(*EXAMPLE)

    def test_places(self):
        row = (0, 4, 3, 4)
        for text, places in (("a", (0, 1, 4, 6)), ("ab", (1, 4, 6)), ("aabcababc", (0,)), ("abc", (1, 6)), ("ca", (3,)),
                             ("bab", (5,)), ("cc", ()), ("bc", (2, 7)), ("c", (3, 8))):
            self.assertEqual(places_of(self.joins, row, text), places)

    def test_a_text_at_the_beginning_and_at_the_end(self):
        self.assertEqual(places_of(self.joins, (4, 2, 4), "abc"), (0, 4))
        self.assertEqual(places_of(self.joins, (4,), "abc"), (0,))
        self.assertEqual(places_of(self.joins, [3], "a"), (0,))
        self.assertEqual(places_of(self.joins, [3], "b"), (1,))

    def test_places_overlap(self):
        self.assertEqual(places_of(self.joins, (5, 5, 0), "aa"), (0, 1, 2, 3))
        self.assertEqual(places_of(self.joins, (3, 3, 3), "abab"), (0, 2))
        self.assertEqual(places_of(Joins(*DOUBLING), (6,), "a" * 39), (0, 1))

    def test_a_text_that_is_longer_than_that_of_the_row(self):
        self.assertEqual(places_of(self.joins, (3,), "aba"), ())
        self.assertEqual(places_of(self.joins, (), "a"), ())
        self.assertEqual(places_of(self.joins, (0,), "a" * 40), ())

    def test_signs_that_are_no_letters(self):
        for text in ("x", "ab ", "A", "<a>", "~" * 40):
            self.assertEqual(places_of(self.joins, (0, 4, 3), text), ())
        self.assertEqual(places_of(Joins(" .|", ((0, 1),)), (3, 1, 2), "."), (1, 2))

    def test_rows_that_are_no_cuts(self):
        self.assertEqual(places_of(self.joins, (0, 1, 2), "abc"), (0,))
        self.assertEqual(places_of(self.joins, (0, 0, 0), "aa"), (0, 1))

    def test_kinds_of_values_and_arguments_by_name(self):
        row = [0, 4]
        found = places_of(joins=self.joins, row=row, text="a")
        self.assertEqual((found, found.__class__, row), ((0, 1), tuple, [0, 4]))
        row.append(0)
        self.assertEqual(found, (0, 1))

    def test_drawn_lists_and_rows(self):
        found = 0
        for alphabet, pairs in many_lists():
            joins = Joins(alphabet, pairs)
            pieces = literal_texts(alphabet, pairs)
            texts = texts_up_to(alphabet[:2], 3)[1:] + pieces[-3:]
            for row in rows_for(alphabet, pairs):
                whole = "".join([pieces[piece] for piece in row])
                for text in texts:
                    places = []
                    at = whole.find(text)
                    while at >= 0:
                        places.append(at)
                        at = whole.find(text, at + 1)
                    self.assertEqual(places_of(joins, row, text), tuple(places))
                    found += len(places) > 1
        self.assertGreater(found, 300)

    def test_no_piece(self):
        for row, piece in (((6,), 6), ([0, -1, 9], -1), ((HUGE, -HUGE), HUGE), ((0, 4, 3, -HUGE), -HUGE)):
            for text in ("a", "x", "abc" * 13):
                told_error(self, NoPiece, lambda: places_of(self.joins, row, text), piece=piece)

    def test_200_pieces_are_quick(self):
        dice = Dice(3)
        for alphabet, pairs in large_lists():
            joins = Joins(alphabet, pairs)
            row = [joins.pieces - 1 - dice.below(3) for _ in range(200)]
            text = joins.text_of(row[-1])
            with Quick(5):
                self.assertGreater(len(places_of(joins, row, text)), 0)


if __name__ == "__main__":
    unittest.main()
