"""[10]: learning."""

import unittest

from rankedjoins.errors import InvalidAlphabet, UnknownSign
from rankedjoins.joinlists import Joins
from rankedjoins.learning import corpus_of, learn, neighbors, sizes
from rankedjoins.plain import cut
from support import ALPHABET_OF_31, EXAMPLE, Dice, literal_cut, literal_learn, literal_neighbors, literal_texts, many_lists


def many_corpora():
    """(alphabet, corpus) of several kinds."""
    dice = Dice(11)
    corpora = [("ab", ()), ("ab", (("", 5),)), ("a", (("a" * 40, 2),)), ("a", (("a" * 41, 2), ("", 1)))]
    for alphabet in ("a", "ab", " ab", "abcd", "abcdefgh"):
        for texts in (1, 3, 8):
            corpus = [(dice.text(alphabet, dice.below(25)), 1 + dice.below(4)) for _ in range(texts)]
            corpora.append((alphabet, tuple(corpus)))
    return corpora


class Neighbors(unittest.TestCase):
    def test_totals_are_sorted_by_descending_total_then_pair(self):
        corpus = (("abc", 3), ("ba", 3), ("cc", 7), ("aab", 1))
        expected = (((2, 2), 7), ((0, 1), 4), ((1, 0), 3), ((1, 2), 3), ((0, 0), 1))
        self.assertEqual(neighbors(Joins("abc", ()), corpus), expected)

    def test_neighbors_are_those_of_the_cuts(self):
        joins = Joins(*EXAMPLE)
        self.assertEqual(neighbors(joins, (("aabcab", 2), ("ab", 9))), (((0, 4), 2), ((4, 3), 2)))

    def test_places_of_a_piece_with_itself_overlap(self):
        self.assertEqual(neighbors(Joins("ab", ()), (("aaaa", 5),)), (((0, 0), 15),))
        self.assertEqual(neighbors(Joins("ab", ((0, 0),)), (("aaaaaaa", 5),)), (((2, 2), 10), ((2, 0), 5)))

    def test_empty_corpora_and_texts(self):
        joins = Joins(*EXAMPLE)
        for corpus in ((), [], (("", 3),), [["", 3], ["a", 10 ** 30]], (("abc", 4),)):
            self.assertEqual(neighbors(joins, corpus), ())

    def test_counts_far_beyond_10_to_the_12(self):
        big = 10 ** 60
        corpus = (("ab", big + 1), ("ba", big), ("ab", big))
        self.assertEqual(neighbors(Joins("ab", ()), corpus), (((0, 1), 2 * big + 1), ((1, 0), big)))

    def test_many_lists_and_corpora(self):
        dice = Dice(23)
        for alphabet, pairs in many_lists():
            corpus = [(dice.text(alphabet, dice.below(20)), 1 + dice.below(3)) for _ in range(4)]
            found = neighbors(Joins(alphabet, pairs), corpus)
            self.assertEqual(found, literal_neighbors(alphabet, pairs, corpus))
            self.assertIs(found.__class__, tuple)


class Learning(unittest.TestCase):
    def test_ordinary_inputs(self):
        corpus = (("abab", 2), ("abc", 1))
        self.assertEqual(learn("abc", corpus, 1).pairs, ((0, 1),))
        self.assertEqual(learn("abc", corpus, 60).pairs, ((0, 1), (3, 3)))

    def test_equal_totals(self):
        self.assertEqual(learn("abc", (("ca", 2), ("bc", 2), ("ba", 2)), 60).pairs, ((1, 0), (1, 2), (2, 0)))
        self.assertEqual(learn("abc", (("ca", 2), ("bc", 3)), 1).pairs, ((1, 2),))

    def test_a_first_total_of_1(self):
        self.assertEqual(learn("ab", (("ab", 1),), 60).pairs, ())
        self.assertEqual(learn("ab", (("ab", 1), ("ab", 1)), 60).pairs, ((0, 1),))
        self.assertEqual(learn("ab", (("ab", 2), ("ba", 1)), 60).pairs, ((0, 1),))

    def test_a_piece_with_itself_at_places_that_overlap(self):
        self.assertEqual(learn("a", (("aaa", 1),), 60).pairs, ((0, 0),))
        self.assertEqual(learn("a", (("aa", 1),), 60).pairs, ())
        self.assertEqual(learn("ab", (("aaa", 2), ("ab", 3)), 1).pairs, ((0, 0),))

    def test_empty_corpora_and_texts(self):
        for corpus in ((), [], (("", 9),), [["", 1], ["", 1]], (("a", 9),)):
            self.assertEqual(learn("ab", corpus, 60), Joins("ab", ()))

    def test_many_of_0_and_of_60(self):
        corpus = ((Dice(2).text("abcdefgh", 200), 50), (Dice(3).text("abcdefgh", 200), 51))
        self.assertEqual(learn("abcdefgh", corpus, 0), Joins("abcdefgh", ()))
        learnt = learn("abcdefgh", corpus, 60)
        self.assertEqual(len(learnt), 60)
        self.assertEqual(learnt.pairs, literal_learn("abcdefgh", corpus, 60))

    def test_new_pieces_of_40_and_of_41_letters(self):
        longest = learn("a", (("a" * 40, 2),), 60)
        self.assertEqual(longest.text_of(longest.pieces - 1), "a" * 40)
        self.assertEqual(cut(longest, "a" * 40), (longest.pieces - 1,))
        stopped = learn("a", (("a" * 41, 2),), 60)
        self.assertEqual([len(stopped.text_of(piece)) for piece in cut(stopped, "a" * 41)], [32, 9])

    def test_learning_stops_at_41_letters_though_shorter_pairs_follow(self):
        learnt = learn("ab", (("a" * 41, 5), ("bb", 2)), 60)
        totals = neighbors(learnt, (("a" * 41, 5), ("bb", 2)))
        self.assertEqual([total for _, total in totals], [5, 2])
        self.assertEqual(totals[1][0], (1, 1))

    def test_counts_far_beyond_10_to_the_12(self):
        big = 10 ** 60
        self.assertEqual(learn("ab", (("ba", big), ("ab", big + 1)), 1).pairs, ((0, 1),))
        self.assertEqual(learn("ab", (("ba", big + 1), ("ab", big)), 1).pairs, ((1, 0),))

    def test_by_name_and_tuples(self):
        learnt = learn(many=1, corpus=[["abab", 2]], alphabet="ab")
        self.assertEqual(learnt.pairs, ((0, 1),))
        self.assertEqual(neighbors(joins=learnt, corpus=[["abab", 2]]), (((2, 2), 2),))
        self.assertEqual(sizes(joins=learnt, corpus=[["abab", 2]]), (8, 4))
        self.assertEqual(corpus_of(joins=learnt), (("ab", 2),))

    def test_no_argument_is_changed(self):
        corpus = [["abab", 2], ["", 1], ["abc", 3]]
        joins = learn("abc", corpus, 60)
        neighbors(joins, corpus)
        sizes(joins, corpus)
        self.assertEqual(corpus, [["abab", 2], ["", 1], ["abc", 3]])


class WrongInputs(unittest.TestCase):
    def test_the_alphabet_is_checked_first(self):
        for alphabet in ("", "ba", "aa", "a\n", ALPHABET_OF_31):
            for many in (0, 60):
                with self.assertRaises(InvalidAlphabet) as caught:
                    learn(alphabet, (("~", 1),), many)
                self.assertIs(caught.exception.alphabet, alphabet)

    def test_the_first_sign_of_the_first_text_that_has_one(self):
        corpus = (("ab", 1), ("abxay", 1), ("z", 1))
        for many in (0, 1, 60):
            with self.assertRaises(UnknownSign) as caught:
                learn("ab", corpus, many)
            self.assertEqual((caught.exception.sign, caught.exception.at), ("x", 2))
        for call in (neighbors, sizes):
            with self.assertRaises(UnknownSign) as caught:
                call(Joins("ab", ((0, 1),)), corpus)
            self.assertEqual((caught.exception.sign, caught.exception.at), ("x", 2))


class Sizes(unittest.TestCase):
    def test_ordinary_inputs(self):
        joins = Joins(*EXAMPLE)
        self.assertEqual(sizes(joins, (("aabcab", 1),)), (6, 4, 3, 3))
        self.assertEqual(sizes(joins, (("aabcab", 10), ("aaa", 1))), (63, 43, 33, 32))

    def test_edges(self):
        joins = Joins(*EXAMPLE)
        self.assertEqual(sizes(joins, ()), (0, 0, 0, 0))
        self.assertEqual(sizes(joins, (("", 7),)), (0, 0, 0, 0))
        self.assertEqual(sizes(Joins("a", ()), (("aa", 10 ** 60),)), (2 * 10 ** 60,))

    def test_many_lists(self):
        dice = Dice(17)
        for alphabet, pairs in many_lists():
            corpus = [(dice.text(alphabet, dice.below(20)), 1 + dice.below(10 ** 15)) for _ in range(3)]
            expected = [sum([count * len(literal_cut(alphabet, pairs[:many], text)) for text, count in corpus])
                        for many in range(len(pairs) + 1)]
            self.assertEqual(sizes(Joins(alphabet, pairs), corpus), tuple(expected))


class CorpusOf(unittest.TestCase):
    def test_the_example(self):
        self.assertEqual(corpus_of(Joins(*EXAMPLE)), (("ab", 3200), ("abc", 80), ("aa", 2)))

    def test_no_join(self):
        self.assertEqual(corpus_of(Joins("ab", ())), ())

    def test_many_lists(self):
        for alphabet, pairs in many_lists():
            texts = literal_texts(alphabet, pairs)[len(alphabet):]
            expected = [(text, 2 * 40 ** (len(pairs) - 1 - rank)) for rank, text in enumerate(texts)]
            self.assertEqual(corpus_of(Joins(alphabet, pairs)), tuple(expected))


class Promises(unittest.TestCase):
    def test_learnt_lists_are_proper_and_fewer_joins_make_the_first_part(self):
        for alphabet, corpus in many_corpora():
            learnt = learn(alphabet, corpus, 60)
            self.assertEqual(learnt.pairs, literal_learn(alphabet, corpus, 60))
            self.assertEqual(Joins(alphabet, learnt.pairs), learnt)
            texts = literal_texts(alphabet, learnt.pairs)
            for rank, (left, right) in enumerate(learnt.pairs):
                text = texts[left] + texts[right]
                self.assertEqual(literal_cut(alphabet, learnt.pairs[:rank], text), (left, right))
            for many in (0, 1, 2, 5, 13):
                part = learnt.pairs[:many]
                self.assertEqual(learn(alphabet, corpus, many).pairs, part)

    def test_every_proper_list_is_learnt_from_its_corpus(self):
        for alphabet, pairs in many_lists():
            joins = Joins(alphabet, pairs)
            self.assertEqual(learn(joins.alphabet, corpus_of(joins), 60).pairs, pairs)


if __name__ == "__main__":
    unittest.main()
