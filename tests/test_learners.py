"""[27]: learning step by step."""

import unittest

from rankedjoins.errors import InvalidAlphabet, UnknownSign
from rankedjoins.joinlists import Joins
from rankedjoins.learners import Learner
from rankedjoins.learning import corpus_of, learn, neighbors
from support import (ALPHABET_OF_31, DOUBLING, EXAMPLE, Dice, Quick, literal_learn, literal_neighbors, literal_texts,
                     many_lists, told_error)


class Learning(unittest.TestCase):
    def test_steps(self):
        learner = Learner("abc", (("abab", 2), ("abc", 1)))
        self.assertEqual(learner.list_so_far(), Joins("abc", ()))
        self.assertEqual(learner.totals(), (((0, 1), 5), ((1, 0), 2), ((1, 2), 1)))
        self.assertEqual(learner.step(), (0, 1))
        self.assertEqual(learner.list_so_far(), Joins("abc", ((0, 1),)))
        self.assertEqual(learner.totals(), (((3, 3), 2), ((3, 2), 1)))
        self.assertEqual(learner.step(), (3, 3))
        self.assertEqual(learner.totals(), (((3, 2), 1),))
        self.assertIsNone(learner.step())
        self.assertEqual(learner.list_so_far(), Joins("abc", ((0, 1), (3, 3))))
        self.assertEqual(learner.totals(), (((3, 2), 1),))

    def test_it_may_go_on_after_further_texts(self):
        learner = Learner("abc", (("abab", 2), ("abc", 1)))
        steps = [learner.step() for _ in range(4)]
        self.assertEqual(steps, [(0, 1), (3, 3), None, None])
        self.assertIsNone(learner.read("cabc", 1))
        self.assertEqual(learner.totals(), (((3, 2), 2), ((2, 3), 1)))
        self.assertEqual(learner.step(), (3, 2))
        self.assertIsNone(learner.step())
        learner.read("cccc", 4)
        self.assertEqual(learner.totals(), (((2, 2), 12), ((2, 5), 1)))
        self.assertEqual([learner.step(), learner.step(), learner.step()], [(2, 2), (6, 6), None])
        self.assertEqual(learner.list_so_far().pairs, ((0, 1), (3, 3), (3, 2), (2, 2), (6, 6)))

    def test_empty_corpora_and_texts(self):
        for corpus in ((), [], (("", 9),), [["", 1], ["", 5]], (("a", 9),)):
            learner = Learner("ab", corpus)
            self.assertEqual((learner.totals(), learner.step(), learner.list_so_far()), ((), None, Joins("ab", ())))
            learner.read("", 3)
            self.assertEqual((learner.totals(), learner.step()), ((), None))
            learner.read("ab", 2)
            self.assertEqual((learner.totals(), learner.step(), learner.totals()), ((((0, 1), 2),), (0, 1), ()))

    def test_equal_texts(self):
        learner = Learner("ab", (("ab", 1), ("ab", 1)))
        self.assertEqual((learner.totals(), learner.step()), ((((0, 1), 2),), (0, 1)))
        learner = Learner("ab", (("ba", 1),))
        self.assertIsNone(learner.step())
        learner.read("ba", 1)
        self.assertEqual((learner.totals(), learner.step()), ((((1, 0), 2),), (1, 0)))

    def test_a_first_total_of_1(self):
        learner = Learner("ab", (("aab", 1),))
        self.assertEqual((learner.step(), learner.totals()), (None, (((0, 0), 1), ((0, 1), 1))))

    def test_pieces_of_40_letters(self):
        learner = Learner("a", (("a" * 40, 2),))
        steps = [learner.step() for _ in range(8)]
        self.assertEqual(steps[-1], None)
        self.assertEqual(learner.list_so_far(), learn("a", (("a" * 40, 2),), 60))
        self.assertEqual(learner.list_so_far().text_of(learner.list_so_far().pieces - 1), "a" * 40)
        # The pair of 32 and 9 letters comes first and would be too long, so learning stops though others follow.
        learner = Learner("ab", (("a" * 41, 5), ("bb", 2)))
        while learner.step() is not None:
            self.assertLessEqual(max([len(text) for text in literal_texts("ab", learner.list_so_far().pairs)]), 40)
        self.assertEqual([total for _, total in learner.totals()], [5, 2])
        self.assertIsNone(learner.step())
        learner.read("bb", 4)
        self.assertEqual(learner.step(), (1, 1))

    def test_the_step_behind_60_joins(self):
        corpus = ((Dice(2).text("abcdefgh", 200), 50), (Dice(3).text("abcdefgh", 200), 51))
        learner = Learner("abcdefgh", corpus)
        steps = [learner.step() for _ in range(60)]
        self.assertNotIn(None, steps)
        self.assertEqual(tuple(steps), literal_learn("abcdefgh", corpus, 60))
        totals = learner.totals()
        self.assertGreater(totals[0][1], 1)
        for _ in range(2):
            self.assertIsNone(learner.step())
            self.assertEqual((len(learner.list_so_far()), learner.totals()), (60, totals))
        learner.read("hgfedcba" * 5, 1000)
        self.assertIsNone(learner.step())
        self.assertEqual(learner.totals(), literal_neighbors("abcdefgh", tuple(steps), corpus + (("hgfedcba" * 5, 1000),)))

    def test_counts_far_beyond_10_to_the_12(self):
        big = 10 ** 60
        learner = Learner("ab", (("ba", big),))
        learner.read("ab", big + 1)
        self.assertEqual(learner.totals(), (((0, 1), big + 1), ((1, 0), big)))
        self.assertEqual(learner.step(), (0, 1))

    def test_learners_know_nothing_of_each_other(self):
        corpus = [["abab", 2]]
        first, second = Learner("ab", corpus), Learner("ab", corpus)
        first.step()
        first.read("bb", 9)
        self.assertEqual((second.list_so_far(), second.totals()), (Joins("ab", ()), (((0, 1), 4), ((1, 0), 2))))

    def test_no_argument_is_changed_and_later_changes_have_no_effect(self):
        corpus = [["abab", 2], ["", 1]]
        learner = Learner(alphabet="ab", corpus=corpus)
        learner.step()
        learner.read(text="bb", count=3)
        self.assertEqual(corpus, [["abab", 2], ["", 1]])
        corpus[0][1] = 100
        corpus.append(["aaaa", 7])
        self.assertEqual(learner.totals(), (((1, 1), 3), ((2, 2), 2)))

    def test_kinds_of_values(self):
        learner = Learner("ab", [["abab", 2]])
        so_far = learner.list_so_far()
        totals = learner.totals()
        self.assertEqual([learner.totals().__class__, totals[0].__class__, totals[0][0].__class__], [tuple] * 3)
        step = learner.step()
        self.assertEqual((step, step.__class__), ((0, 1), tuple))
        self.assertIs(learner.list_so_far().__class__, Joins)
        # What was told stays as it was.
        self.assertEqual((so_far, totals), (Joins("ab", ()), (((0, 1), 4), ((1, 0), 2))))


class WrongInputs(unittest.TestCase):
    def test_the_alphabet_ahead_of_the_texts(self):
        for alphabet in ("", "ba", "aa", "a\n", ALPHABET_OF_31):
            told_error(self, InvalidAlphabet, lambda: Learner(alphabet, (("~", 1),)), alphabet=alphabet)
            told_error(self, InvalidAlphabet, lambda: Learner(alphabet, ()), alphabet=alphabet)

    def test_the_first_sign_of_the_first_text_that_has_one(self):
        told_error(self, UnknownSign, lambda: Learner("ab", (("ab", 1), ("abxay", 1), ("z", 1))), sign="x", at=2)

    def test_a_text_that_is_refused_does_not_belong_to_the_corpus(self):
        learner = Learner("ab", (("abab", 2),))
        for step in (False, True):
            if step:
                learner.step()
            held = (learner.totals(), learner.list_so_far())
            for text, sign, at in (("x", "x", 0), ("aab ab", " ", 3), ("bbbbB", "B", 4)):
                told_error(self, UnknownSign, lambda: learner.read(text, 50), sign=sign, at=at)
                self.assertEqual((learner.totals(), learner.list_so_far()), held)
        learner.read("abb", 3)
        self.assertEqual(learner.totals(), literal_neighbors("ab", ((0, 1),), (("abab", 2), ("abb", 3))))


class Promises(unittest.TestCase):
    def test_totals_are_neighbors_of_the_list_so_far_and_the_whole_corpus(self):
        dice = Dice(89)
        steps_taken = 0
        for alphabet in ("a", "ab", " ab", "abcd", "abcdefgh"):
            for _ in range(4):
                corpus = [(dice.text(alphabet, dice.below(25)), 1 + dice.below(4)) for _ in range(dice.below(5))]
                learner = Learner(alphabet, corpus)
                pairs = ()
                for _ in range(25):
                    if dice.below(3) == 0:
                        added = (dice.text(alphabet, dice.below(20)), 1 + dice.below(5))
                        self.assertIsNone(learner.read(*added))
                        corpus.append(added)
                    else:
                        step = learner.step()
                        totals = literal_neighbors(alphabet, pairs, corpus)
                        if step is None:
                            texts = literal_texts(alphabet, pairs)
                            first = totals[0] if totals else None
                            self.assertTrue(first is None or first[1] < 2 or len(texts[first[0][0]] + texts[first[0][1]]) > 40)
                        else:
                            self.assertEqual(step, totals[0][0])
                            pairs += (step,)
                            steps_taken += 1
                    self.assertEqual(learner.list_so_far(), Joins(alphabet, pairs))
                    self.assertEqual(learner.totals(), literal_neighbors(alphabet, pairs, corpus))
                    self.assertEqual(learner.totals(), neighbors(learner.list_so_far(), corpus))
        self.assertGreater(steps_taken, 150)

    def test_steps_alone_learn_what_learn_learns(self):
        dice = Dice(7)
        for alphabet, pairs in many_lists()[:20] + [EXAMPLE, DOUBLING]:
            joins = Joins(alphabet, pairs)
            drawn = [(dice.text(alphabet, dice.below(30)), 1 + dice.below(4)) for _ in range(6)]
            for corpus in (corpus_of(joins), drawn):
                learner = Learner(alphabet, corpus)
                while learner.step() is not None:
                    pass
                self.assertEqual(learner.list_so_far(), learn(alphabet, corpus, 60))
            self.assertEqual(learn(alphabet, corpus_of(joins), 60), joins)


class Sizes(unittest.TestCase):
    def test_60_texts_of_200_letters_with_60_steps(self):
        dice = Dice(101)
        for alphabet in ("ab", "abcdefgh", "".join([chr(code) for code in range(65, 95)])):
            corpus = [(dice.text(alphabet, 200), 1 + dice.below(9)) for _ in range(60)]
            with Quick(8):
                learner = Learner(alphabet, corpus[:30])
                for at in range(60):
                    learner.step()
                    learner.totals()
                    if at % 2 == 0:
                        learner.read(*corpus[30 + at // 2])
                learner.step()
            self.assertEqual(learner.totals(), neighbors(learner.list_so_far(), corpus))


if __name__ == "__main__":
    unittest.main()
