"""[13]: one pass."""

import unittest

from rankedjoins.errors import UnknownSign
from rankedjoins.joinlists import Joins
from rankedjoins.pairs import side_by_side
from rankedjoins.plain import cut
from rankedjoins.tails import chain, tails
from support import DOUBLING, EXAMPLE, literal_cut, many_lists, texts_for


class Tails(unittest.TestCase):
    def test_the_example(self):
        self.assertEqual(tails(Joins(*EXAMPLE), "aabcab"), (0, 5, 3, 4, 0, 3))
        self.assertEqual(chain(Joins(*EXAMPLE), (0, 5, 3, 4, 0, 3)), (0, 4, 3))

    def test_the_empty_text(self):
        joins = Joins(*EXAMPLE)
        self.assertEqual(tails(joins, ""), ())
        self.assertEqual(chain(joins, ()), ())
        self.assertEqual(chain(joins, []), ())

    def test_no_join(self):
        joins = Joins("ab", ())
        self.assertEqual(tails(joins, "abba"), (0, 1, 1, 0))
        self.assertEqual(chain(joins, (0, 1, 1, 0)), (0, 1, 1, 0))

    def test_pieces_of_40_letters_in_texts_of_200(self):
        joins = Joins(*DOUBLING)
        found = tails(joins, "a" * 200)
        self.assertEqual(found, tuple([cut(joins, "a" * many)[-1] for many in range(1, 201)]))
        self.assertEqual((found[39], found[40]), (6, 0))
        self.assertEqual(chain(joins, found), cut(joins, "a" * 200))

    def test_unknown_signs(self):
        for text, sign, at in (("x", "x", 0), ("abx", "x", 2), ("aAyx", "A", 1)):
            with self.assertRaises(UnknownSign) as caught:
                tails(Joins(*EXAMPLE), text)
            self.assertEqual((caught.exception.sign, caught.exception.at), (sign, at))

    def test_arguments_by_name_lists_and_nothing_changed(self):
        joins = Joins(*EXAMPLE)
        row = list(tails(joins=joins, text="aabcab"))
        self.assertEqual(chain(joins=joins, row_of_tails=row), (0, 4, 3))
        self.assertEqual(row, [0, 5, 3, 4, 0, 3])


class Promises(unittest.TestCase):
    def test_tails_are_the_last_pieces_and_chain_gives_the_cut(self):
        for alphabet, pairs in many_lists():
            joins = Joins(alphabet, pairs)
            for text in texts_for(alphabet, pairs, 4):
                found = tails(joins, text)
                cuts = [literal_cut(alphabet, pairs, text[:many + 1]) for many in range(len(text))]
                self.assertEqual(found, tuple([row[-1] for row in cuts]))
                for many in range(len(text)):
                    self.assertEqual(chain(joins, found[:many + 1]), cut(joins, text[:many + 1]))
                self.assertEqual(chain(joins, list(found)), cut(joins, text))

    def test_the_tail_is_the_only_ending_that_is_all_or_side_by_side_with_the_tail_ahead(self):
        for alphabet, pairs in many_lists():
            joins = Joins(alphabet, pairs)
            for text in texts_for(alphabet, pairs, 2):
                found = (None,) + tails(joins, text)
                for many in range(1, len(text) + 1):
                    fitting = []
                    for piece in range(joins.pieces):
                        ahead = many - len(joins.text_of(piece))
                        if not text[:many].endswith(joins.text_of(piece)):
                            continue
                        if ahead == 0 or side_by_side(joins, found[ahead], piece):
                            fitting.append(piece)
                    self.assertEqual(fitting, [cut(joins, text[:many])[-1]])
                    self.assertEqual(fitting, [found[many]])


if __name__ == "__main__":
    unittest.main()
