"""[25]: covers, how likely a text begins so, and the next letter."""

import unittest
from fractions import Fraction

from rankedjoins.covers import begins, covers, next_signs
from rankedjoins.errors import NoChance, UnknownSign
from rankedjoins.joinlists import Joins
from rankedjoins.models import Model, model_of
from rankedjoins.pairs import side_by_side
from rankedjoins.shares import Share
from support import (CHAIN_LEFT, DOUBLING, EXAMPLE, Dice, Quick, drawn_table, ended_rows, fraction, large_lists,
                     literal_chance, literal_cut, literal_texts, many_lists, small_lists, texts_for, texts_up_to, told_error,
                     weights_of)

# Of the example: a, b, c, ab, abc, aa are the pieces 0 to 5.
TABLE = ((None, ((0, 1), (3, 2), (4, 1))), (0, ((None, 1), (4, 3))), (3, ((None, 1), (3, 1))), (4, ((None, 3), (0, 2))))


def literal_covers(alphabet, pairs, table, text):
    """[25] by going through all rows piece by piece."""
    if text == "":
        return ((),)
    pieces = literal_texts(alphabet, pairs)
    found = []
    waiting = [((), "")]
    weights = weights_of(table)
    while waiting:
        row, begun = waiting.pop()
        for piece in weights[row[-1] if row else None]:
            if piece is not None:
                longer = begun + pieces[piece]
                if longer.startswith(text):
                    found.append(row + (piece,))
                elif text.startswith(longer):
                    waiting.append((row + (piece,), longer))
    return tuple(sorted(found))


def told(pairs):
    """The pairs with fractions instead of shares."""
    return [(first, fraction(share)) for first, share in pairs]


class Covers(unittest.TestCase):
    def setUp(self):
        self.joins = Joins(*EXAMPLE)
        self.model = Model(self.joins, TABLE)

    def test_covers(self):
        for text, rows in (("", ((),)), ("a", ((0,), (3,), (4,))), ("ab", ((3,), (4,))), ("abc", ((4,),)), ("aab", ((0, 4),)),
                           ("aba", ((3, 3),)), ("abca", ((4, 0),)), ("abcaa", ((4, 0, 4),)), ("b", ()), ("aaa", ()),
                           ("ababc", ())):
            self.assertEqual(covers(self.model, text), rows)

    def test_begins(self):
        for text, chance in (("", "1"), ("a", "1"), ("ab", "3/4"), ("abc", "1/4"), ("aab", "3/16"), ("aba", "1/4"),
                             ("abca", "1/10"), ("abcaa", "3/40"), ("b", "0"), ("aaa", "0"), ("ababc", "0")):
            self.assertEqual(begins(self.model, text).written(), chance)

    def test_next_signs(self):
        for text, expected in (("", [("a", "1")]), ("a", [(None, "1/16"), ("a", "3/16"), ("b", "3/4")]),
                               ("ab", [(None, "1/3"), ("a", "1/3"), ("c", "1/3")]), ("aa", [("b", "1")]),
                               ("abc", [(None, "3/5"), ("a", "2/5")]), ("abab", [(None, "1/2"), ("a", "1/2")])):
            found = next_signs(self.model, text)
            self.assertEqual([(sign, share.written()) for sign, share in found], expected)

    def test_kinds_of_values_and_arguments_by_name(self):
        found = covers(model=self.model, text="ab")
        self.assertEqual([found.__class__] + [row.__class__ for row in found], [tuple, tuple, tuple])
        self.assertIs(begins(model=self.model, text="ab").__class__, Share)
        self.assertIs(begins(model=self.model, text="b").__class__, Share)
        found = next_signs(model=self.model, text="ab")
        self.assertEqual([found.__class__] + [entry.__class__ for entry in found], [tuple] * 4)
        self.assertEqual([share.__class__ for _, share in found], [Share] * 3)

    def test_what_is_done_to_the_table_later_has_no_effect(self):
        table = [[None, [[0, 1], [3, 1]]], [0, [[None, 1]]], [3, [[None, 1]]]]
        model = Model(self.joins, table)
        table[0][1][0][1] = 5
        table[0][1].append([4, 1])
        table.append([4, [[None, 1]]])
        self.assertEqual(covers(model, "a"), ((0,), (3,)))
        self.assertEqual(begins(model, "ab"), Share(1, 2))
        self.assertEqual(told(next_signs(model, "a")), [(None, Fraction(1, 2)), ("b", Fraction(1, 2))])

    def test_none_alone(self):
        model = Model(self.joins, ((None, ((None, 3),)),))
        self.assertEqual((covers(model, ""), covers(model, "a")), (((),), ()))
        self.assertEqual((begins(model, ""), begins(model, "a")), (Share(1, 1), Share(0, 1)))
        self.assertEqual(next_signs(model, ""), ((None, Share(1, 1)),))
        told_error(self, NoChance, lambda: next_signs(model, "a"), text="a")

    def test_a_model_that_never_ends(self):
        model = Model(Joins("ab", ()), ((None, ((0, 1),)), (0, ((0, 1), (1, 2))), (1, ((1, 1), (0, 2)))))
        self.assertEqual(begins(model, "a" * 20), Share(1, 3 ** 19))
        self.assertEqual(begins(model, "ab" * 10), Share(2 ** 19, 3 ** 19))
        self.assertEqual(told(next_signs(model, "ab" * 10)), [("a", Fraction(2, 3)), ("b", Fraction(1, 3))])

    def test_a_last_piece_that_goes_far_beyond(self):
        model = Model(Joins(*DOUBLING), ((None, ((6, 1), (0, 1), (5, 2))), (0, ((None, 1),)), (5, ((None, 1),)), (6, ((None, 1),))))
        self.assertEqual(covers(model, "a"), ((0,), (5,), (6,)))
        self.assertEqual(covers(model, "a" * 20), ((5,), (6,)))
        self.assertEqual(told(next_signs(model, "a" * 20)), [("a", Fraction(1))])
        self.assertEqual(told(next_signs(model, "a" * 32)), [(None, Fraction(2, 3)), ("a", Fraction(1, 3))])

    def test_the_row_ahead_of_the_last_piece_is_the_cut_of_its_text(self):
        # Its pieces and others might make the text in several ways, but only the cut has a chance.
        joins = Joins("ab", ((0, 0), (2, 1)))
        model = model_of(joins, (("aaab", 1), ("aab", 1), ("aba", 1), ("aaaab", 2)))
        self.assertEqual(covers(model, "aaab"), ((2, 0, 1), ))
        self.assertEqual(covers(model, "aa"), ((2,), (3,)))
        for text in texts_up_to("ab", 5):
            for row in covers(model, text):
                ahead = "".join([joins.text_of(piece) for piece in row[:-1]])
                self.assertEqual(literal_cut("ab", joins.pairs, ahead), row[:-1])


class WrongInputs(unittest.TestCase):
    def setUp(self):
        self.model = Model(Joins(*EXAMPLE), TABLE)

    def test_unknown_signs(self):
        for call in (covers, begins, next_signs):
            for text, sign, at in (("x", "x", 0), ("abX!", "X", 2), ("bbb ", " ", 3), ("bD", "D", 1)):
                told_error(self, UnknownSign, lambda: call(self.model, text), sign=sign, at=at)

    def test_no_chance(self):
        for text in ("b", "c", "ba", "ababc", "aaa", "abcb"):
            told_error(self, NoChance, lambda: next_signs(self.model, text), text=text)


class Promises(unittest.TestCase):
    def models(self, forward):
        """(alphabet, pairs, table, model) of small models."""
        dice = Dice(17)
        for alphabet, pairs in small_lists():
            for many in (1, 2, 4, 9):
                table = drawn_table(dice, alphabet, pairs, many, 3, forward)
                yield alphabet, pairs, table, Model(Joins(alphabet, pairs), table)

    def test_covers_and_the_sums_of_their_chances(self):
        several = 0
        for alphabet, pairs, table, model in self.models(False):
            texts = texts_for(alphabet, pairs, 4, 20) + texts_up_to(alphabet, 3)
            for text in [text[:20] for text in texts]:
                expected = literal_covers(alphabet, pairs, table, text)
                self.assertEqual(covers(model, text), expected)
                self.assertEqual(fraction(begins(model, text)), sum([literal_chance(table, row) for row in expected]))
                several += len(expected) > 1 and len(expected[-1]) > 1
        self.assertGreater(several, 100)

    def test_begins_is_the_chance_that_a_text_begins_so(self):
        above = 0
        for alphabet, pairs, table, model in self.models(True):
            pieces = literal_texts(alphabet, pairs)
            ended = [("".join([pieces[piece] for piece in row]), literal_chance(table, row + (None,))) for row in ended_rows(table)]
            self.assertEqual(sum([chance for _, chance in ended]), 1)
            for text in texts_up_to(alphabet, 4) + [text[:many] for text, _ in ended[:20] for many in (5, 8, 20)]:
                chance = sum([chance for longer, chance in ended if longer.startswith(text)])
                self.assertEqual(fraction(begins(model, text)), chance)
                if chance > 0:
                    above += 0 < chance < 1
                    signs = [(None, sum([share for longer, share in ended if longer == text]) / chance)]
                    for letter in alphabet:
                        signs.append((letter, sum([share for longer, share in ended if longer.startswith(text + letter)]) / chance))
                    self.assertEqual(told(next_signs(model, text)), [entry for entry in signs if entry[1] > 0])
        self.assertGreater(above, 200)

    def test_in_models_that_go_round_it_lies_between_what_came_to_an_end_and_what_did_not_yet(self):
        joins = Joins(*EXAMPLE)
        table = ((None, ((0, 1), (3, 2), (4, 1), (None, 1))), (0, ((None, 2), (4, 1), (3, 1))), (3, ((None, 1), (0, 1), (3, 1))),
                 (4, ((0, 1), (None, 1))))
        ended = [(row, literal_chance(table, row + (None,))) for row in ended_rows(table, 9)]
        rest = 1 - sum([chance for _, chance in ended])
        self.assertLess(rest, Fraction(1, 20))
        texts = [("".join([joins.text_of(piece) for piece in row]), chance) for row, chance in ended]
        for text in texts_up_to("abc", 4):
            chance = sum([chance for longer, chance in texts if longer.startswith(text)])
            found = fraction(begins(Model(joins, table), text))
            self.assertTrue(chance <= found <= chance + rest)

    def test_the_shares_of_next_signs_add_up_to_1(self):
        told_so = 0
        for forward in (False, True):
            for alphabet, pairs, table, model in self.models(forward):
                for text in texts_up_to(alphabet, 3) + [text[:20] for text in texts_for(alphabet, pairs, 3)]:
                    chance = begins(model, text)
                    if chance.over == 0:
                        told_error(self, NoChance, lambda: next_signs(model, text), text=text)
                        continue
                    found = told(next_signs(model, text))
                    self.assertEqual(sum([share for _, share in found]), 1)
                    expected = [(None, fraction(model.chance_of_text(text)) / fraction(chance))]
                    expected += [(letter, fraction(begins(model, text + letter)) / fraction(chance)) for letter in alphabet]
                    self.assertEqual(found, [entry for entry in expected if entry[1] > 0])
                    told_so += len(found) > 1
        self.assertGreater(told_so, 200)

    def test_learnt_models_of_large_lists(self):
        dice = Dice(2)
        for alphabet, pairs in many_lists()[:12] + [CHAIN_LEFT]:
            pieces = literal_texts(alphabet, pairs)
            corpus = [("".join([pieces[dice.below(len(pieces))] for _ in range(6)]), 1 + dice.below(5)) for _ in range(6)]
            model = model_of(Joins(alphabet, pairs), corpus)
            for text, _ in corpus:
                text = text[:dice.below(20)]
                chance = sum([fraction(model.chance_of_begin(row)) for row in covers(model, text)])
                self.assertEqual(covers(model, text), literal_covers(alphabet, pairs, model.table(), text))
                self.assertEqual(fraction(begins(model, text)), chance)
                self.assertGreater(chance, 0)
                self.assertEqual(sum([share for _, share in told(next_signs(model, text))]), 1)


class Sizes(unittest.TestCase):
    def test_a_text_of_20_letters_a_table_with_an_entry_for_each_piece_and_weights_of_many_digits(self):
        dice = Dice(13)
        for alphabet, pairs in large_lists():
            joins = Joins(alphabet, pairs)
            pieces = range(joins.pieces)
            table = []
            for last in [None] + list(pieces):
                fitting = [piece for piece in pieces if last is None or side_by_side(joins, last, piece)]
                table.append((last, [(None, 7 ** 400)] + [(piece, 3 ** 700 + dice.below(1000)) for piece in fitting]))
            model = Model(joins, table)
            texts = literal_texts(alphabet, pairs)
            for text in ("".join([texts[dice.below(len(texts))] for _ in range(20)])[:20], alphabet[0] * 20):
                with Quick(5):
                    self.assertIn(literal_cut(alphabet, pairs, text), covers(model, text))
                    self.assertGreater(begins(model, text).over, 0)
                    next_signs(model, text)


if __name__ == "__main__":
    unittest.main()
