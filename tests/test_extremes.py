"""[33]: the fewest and the most pieces."""

import unittest

from rankedjoins.extremes import fewest, most
from rankedjoins.joinlists import Joins
from rankedjoins.plain import cut
from support import ALPHABET_OF_30, CHAIN_RIGHT, DOUBLING, EXAMPLE, Quick, all_texts, large_lists, many_lists, small_lists


class Extremes(unittest.TestCase):
    def test_the_example(self):
        joins = Joins(*EXAMPLE)
        self.assertEqual([fewest(joins, many) for many in range(4)], [(0, ""), (1, "a"), (1, "aa"), (1, "abc")])
        self.assertEqual([most(joins, many) for many in range(4)], [(0, ""), (1, "a"), (2, "ac"), (3, "aca")])
        self.assertEqual(fewest(joins, 6), (2, "abcabc"))

    def test_no_letters(self):
        for alphabet, pairs in many_lists():
            joins = Joins(alphabet, pairs)
            self.assertEqual((fewest(joins, 0), most(joins, 0)), ((0, ""), (0, "")))
            self.assertEqual((fewest(joins, 1), most(joins, 1)), ((1, alphabet[0]), (1, alphabet[0])))

    def test_all_texts_of_small_lists(self):
        for alphabet, pairs in small_lists():
            joins = Joins(alphabet, pairs)
            for many in range({1: 12, 2: 8, 3: 5}[len(alphabet)] + 1):
                # min takes the first of equals, and the texts are ascending.
                sizes = [(len(cut(joins, text)), text) for text in all_texts(alphabet, many)]
                self.assertEqual(fewest(joins, many), min(sizes, key=lambda entry: entry[0]))
                self.assertEqual(most(joins, many), max(sizes, key=lambda entry: entry[0]))

    def test_12_letters(self):
        for alphabet, pairs in many_lists():
            joins = Joins(alphabet, pairs)
            for many in (7, 12):
                for call in (fewest, most):
                    pieces, text = call(joins, many)
                    self.assertEqual((len(text), len(cut(joins, text))), (many, pieces))
                self.assertLessEqual(fewest(joins, many)[0], most(joins, many)[0])

    def test_a_piece_behind_which_nothing_may_follow(self):
        self.assertEqual(most(Joins(*DOUBLING), 12), (2, "a" * 12))
        self.assertEqual(fewest(Joins(*DOUBLING), 12), (2, "a" * 12))

    def test_no_join(self):
        joins = Joins("bc", ())
        self.assertEqual((fewest(joins, 12), most(joins, 12)), ((12, "b" * 12), (12, "b" * 12)))

    def test_arguments_by_name_and_kinds_of_values(self):
        joins = Joins(*CHAIN_RIGHT)
        self.assertEqual(fewest(joins=joins, many=12), (1, ALPHABET_OF_30[:12]))
        self.assertEqual(most(joins=joins, many=2), (2, "AA"))
        self.assertIs(fewest(joins, 3).__class__, tuple)
        self.assertIs(most(joins, 3).__class__, tuple)

    def test_the_greatest_sizes_are_quick(self):
        for alphabet, pairs in large_lists():
            joins = Joins(alphabet, pairs)
            with Quick(5):
                fewest(joins, 12)
                most(joins, 12)


if __name__ == "__main__":
    unittest.main()
