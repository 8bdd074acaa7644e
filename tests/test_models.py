"""[24]: models."""

import unittest
from fractions import Fraction

from rankedjoins.errors import InvalidModel, NoPiece, UnknownSign
from rankedjoins.joinlists import Joins
from rankedjoins.models import Model, model_of
from rankedjoins.pairs import side_by_side
from rankedjoins.plain import cut, text_of_row
from rankedjoins.shares import Share
from support import (DOUBLING, EXAMPLE, HUGE, Dice, Quick, drawn_table, fraction, large_lists, literal_chance, literal_cut,
                     literal_texts, many_lists, none_ahead, rows_for, small_lists, texts_for, told_error, weights_of)

# Of the example: a, b, c, ab, abc, aa are the pieces 0 to 5.
TABLE = ((None, ((3, 3), (0, 1))), (3, ((None, 1), (0, 2), (3, 3))), (0, ((None, 5), (3, 5))))


def written(share):
    return share.written()


class Chances(unittest.TestCase):
    def setUp(self):
        self.model = Model(Joins(*EXAMPLE), TABLE)

    def test_rows_that_begin(self):
        for row, chance in (((), "1"), ((3,), "3/4"), ((0,), "1/4"), ((3, 3), "3/8"), ([3, 0, 3], "1/8"), ((0, 3), "1/8")):
            self.assertEqual(self.model.chance_of_begin(row).written(), chance)

    def test_rows_that_come_to_an_end(self):
        for row, chance in (((), "0"), ((3,), "1/8"), ((0,), "1/8"), ((3, 3), "1/16"), ([3, 0], "1/8"), ((0, 3), "1/48")):
            self.assertEqual(self.model.chance_of_row(row).written(), chance)

    def test_texts(self):
        for text, chance in (("", "0"), ("ab", "1/8"), ("a", "1/8"), ("abab", "1/16"), ("aba", "1/8"), ("aab", "1/48"),
                             ("aa", "0"), ("abc", "0"), ("b", "0")):
            self.assertEqual(self.model.chance_of_text(text).written(), chance)

    def test_rows_with_a_choice_that_there_is_not(self):
        # 5 and 4 have no rows, 0 is no choice behind 0, and (0, 1) is not even a cut.
        for row in ((5,), (4, 3), (0, 0), (0, 1), (1, 1, 1), (3, 4, 0), [2] * 200):
            self.assertEqual(self.model.chance_of_begin(row), Share(0, 1))
            self.assertEqual(self.model.chance_of_row(row), Share(0, 1))

    def test_all_chances_are_shares(self):
        for share in (self.model.chance_of_begin(()), self.model.chance_of_begin((1,)), self.model.chance_of_row(()),
                      self.model.chance_of_text("ab")):
            self.assertIs(share.__class__, Share)

    def test_the_empty_row_and_text(self):
        model = Model(Joins("a", ()), [[None, [[None, 4], [0, 1]]], [0, [[None, 1]]]])
        self.assertEqual([written(model.chance_of_begin(())), written(model.chance_of_row([])), written(model.chance_of_text(""))],
                         ["1", "4/5", "4/5"])

    def test_none_alone(self):
        for table in (((None, ((None, 1),)),), [[None, [[None, 10 ** 30]]]]):
            model = Model(Joins(*EXAMPLE), table)
            self.assertEqual(model.chance_of_row(()), Share(1, 1))
            self.assertEqual(model.chance_of_begin((0,)), Share(0, 1))
            self.assertEqual(model.chance_of_text("abc"), Share(0, 1))

    def test_a_model_that_never_ends(self):
        model = Model(Joins("a", ()), ((None, ((0, 2),)), (0, ((0, 9),))))
        self.assertEqual(model.chance_of_begin((0,) * 200), Share(1, 1))
        self.assertEqual(model.chance_of_row((0,) * 200), Share(0, 1))

    def test_weights_of_many_digits(self):
        big = 10 ** 300
        model = Model(Joins("a", ()), ((None, ((0, big), (None, big + 1))), (0, ((0, 1), (None, big)))))
        expected = Fraction(big, 2 * big + 1) * Fraction(1, big + 1) * Fraction(big, big + 1)
        self.assertEqual(fraction(model.chance_of_text("aa")), expected)

    def test_drawn_models_and_rows(self):
        dice = Dice(29)
        above = 0
        for alphabet, pairs in small_lists():
            joins = Joins(alphabet, pairs)
            for many in (0, 1, 3, 6):
                table = drawn_table(dice, alphabet, pairs, many)
                model = Model(joins, table)
                rows = rows_for(alphabet, pairs)
                for text in texts_for(alphabet, pairs, 6, 8):
                    row = literal_cut(alphabet, pairs, text)
                    rows.append(row)
                    self.assertEqual(fraction(model.chance_of_text(text)), literal_chance(table, row + (None,)))
                for row in rows:
                    chance = model.chance_of_begin(list(row))
                    self.assertEqual(fraction(chance), literal_chance(table, row))
                    self.assertEqual(fraction(model.chance_of_row(row)), literal_chance(table, row + (None,)))
                    above += chance.over > 0 and len(row) > 1
        self.assertGreater(above, 100)


class Tables(unittest.TestCase):
    def test_the_table_in_order(self):
        expected = ((None, ((0, 1), (3, 3))), (0, ((None, 5), (3, 5))), (3, ((None, 1), (0, 2), (3, 3))))
        joins = Joins(*EXAMPLE)
        self.assertEqual(Model(joins, TABLE).table(), expected)
        self.assertEqual(Model(joins, TABLE[::-1]).table(), expected)
        self.assertEqual(Model(joins, [[last, [list(choice) for choice in choices[::-1]]] for last, choices in TABLE]).table(),
                         expected)

    def test_weights_stay_as_they_are(self):
        model = Model(Joins("a", ()), ((0, ((None, 20),)), (None, ((None, 4), (0, 10 ** 50)))))
        self.assertEqual(model.table(), ((None, ((None, 4), (0, 10 ** 50))), (0, ((None, 20),))))

    def test_all_that_is_told_are_tuples(self):
        table = Model(Joins(*EXAMPLE), [[None, [[0, 1], [None, 2]]], [0, [[None, 3]]]]).table()
        self.assertEqual(table, ((None, ((None, 2), (0, 1))), (0, ((None, 3),))))
        for last, choices in table:
            self.assertIs(choices.__class__, tuple)
            self.assertEqual([choice.__class__ for choice in choices], [tuple] * len(choices))
        self.assertEqual([table.__class__, table[0].__class__], [tuple, tuple])

    def test_a_model_of_a_table_is_the_model(self):
        dice = Dice(83)
        for alphabet, pairs in small_lists():
            table = drawn_table(dice, alphabet, pairs, 5)
            expected = tuple(sorted([(last, tuple(sorted([tuple(choice) for choice in choices], key=lambda choice: none_ahead(choice[0]))))
                                     for last, choices in table], key=lambda entry: none_ahead(entry[0])))
            joins = Joins(alphabet, pairs)
            self.assertEqual(Model(joins, table).table(), expected)
            self.assertEqual(Model(joins, expected).table(), expected)

    def test_no_argument_is_changed_and_later_changes_have_no_effect(self):
        table = [[3, [[3, 1], [None, 2]]], [None, [[3, 5], [None, 6]]]]
        joins = Joins(*EXAMPLE)
        model = Model(joins=joins, table=table)
        row = [3, 3]
        told = [model.chance_of_begin(row=row), model.chance_of_row(row=row), model.chance_of_text(text="abab"), model.table()]
        self.assertEqual(table, [[3, [[3, 1], [None, 2]]], [None, [[3, 5], [None, 6]]]])
        self.assertEqual(row, [3, 3])
        table[0][1][0][1] = 7
        table[0][1].append([0, 4])
        table[1][1].pop()
        table[1][0] = 2
        table.append([0, [[None, 1]]])
        row.append(3)
        self.assertEqual(told, [model.chance_of_begin((3, 3)), model.chance_of_row((3, 3)), model.chance_of_text("abab"), model.table()])
        self.assertEqual(told[-1], ((None, ((None, 6), (3, 5))), (3, ((None, 2), (3, 1)))))


class ModelOf(unittest.TestCase):
    def setUp(self):
        self.joins = Joins(*EXAMPLE)

    def test_an_ordinary_corpus(self):
        model = model_of(self.joins, (("aabcab", 2), ("ab", 3)))
        self.assertEqual(model.table(), ((None, ((0, 2), (3, 3))), (0, ((4, 2),)), (3, ((None, 5),)), (4, ((3, 2),))))
        self.assertEqual(model.chance_of_text("ab").written(), "3/5")
        self.assertEqual(model.chance_of_text("aabcab").written(), "2/5")

    def test_empty_equal_and_single_texts(self):
        self.assertEqual(model_of(self.joins, (("", 7),)).table(), ((None, ((None, 7),)),))
        self.assertEqual(model_of(self.joins, [["", 7], ["", 2]]).table(), ((None, ((None, 9),)),))
        self.assertEqual(model_of(self.joins, (("b", 2), ("", 3), ("b", 4))).table(), ((None, ((None, 3), (1, 6))), (1, ((None, 6),))))
        self.assertEqual(model_of(self.joins, [["abc", 1]]).table(), ((None, ((4, 1),)), (4, ((None, 1),))))

    def test_each_place_counts(self):
        self.assertEqual(model_of(self.joins, (("bbbb", 10 ** 40),)).table(),
                         ((None, ((1, 10 ** 40),)), (1, ((None, 10 ** 40), (1, 3 * 10 ** 40)))))

    def test_drawn_corpora(self):
        dice = Dice(61)
        for alphabet, pairs in many_lists():
            corpus = [(dice.text(alphabet, dice.below(12)), 1 + dice.below(4)) for _ in range(5)]
            counts = {}
            for text, count in corpus:
                row = (None,) + literal_cut(alphabet, pairs, text) + (None,)
                for pair in zip(row, row[1:]):
                    counts[pair] = counts.get(pair, 0) + count
            model = model_of(Joins(alphabet, pairs), corpus)
            self.assertEqual({(last, following): weight for last, choices in model.table() for following, weight in choices}, counts)
            self.assertEqual(Model(Joins(alphabet, pairs), model.table()).table(), model.table())

    def test_unknown_signs(self):
        corpus = [["ab", 1], ["abxy", 2], ["z", 1]]
        told_error(self, UnknownSign, lambda: model_of(self.joins, corpus), sign="x", at=2)
        told_error(self, UnknownSign, lambda: model_of(self.joins, (("", 1), ("A", 1))), sign="A", at=0)

    def test_no_argument_is_changed(self):
        corpus = [["ab", 1], ["", 2]]
        model = model_of(joins=self.joins, corpus=corpus)
        self.assertEqual(corpus, [["ab", 1], ["", 2]])
        corpus[0][1] = 9
        corpus.pop()
        self.assertEqual(model.table(), ((None, ((None, 2), (3, 1))), (3, ((None, 1),))))


class WrongInputs(unittest.TestCase):
    def wrong(self, table, last):
        joins = Joins(*EXAMPLE)
        for given in (table, [[ahead, [list(choice) for choice in choices]] for ahead, choices in table]):
            error = told_error(self, InvalidModel, lambda: Model(joins, given))
            self.assertEqual((error.last, error.last.__class__), (last, last.__class__))

    def test_no_row_for_none_ahead_of_all_others(self):
        self.wrong((), None)
        self.wrong(((0, ((None, 1),)),), None)
        self.wrong(((9, ((None, 1),)), (0, ((9, 1), (2, 1)))), None)
        self.wrong(((0, ((0, 1),)), (1, ((5, 1),))), None)

    def test_a_last_that_is_no_piece(self):
        for last in (6, -1, HUGE, -HUGE):
            self.wrong(((None, ((None, 1),)), (last, ((None, 1),))), last)
            self.wrong(((last, ((None, 1),)), (None, ((None, 1),))), last)

    def test_a_next_that_is_no_piece(self):
        for following in (6, -1, HUGE):
            self.wrong(((None, ((None, 1), (following, 1))),), None)
            self.wrong(((None, ((None, 1),)), (2, ((following, 1), (None, 1)))), 2)
            # That it has a row of its own does not help.
            self.wrong(((None, ((None, 1),)), (2, ((following, 1),)), (following, ((None, 1),))), 2)

    def test_a_next_that_is_not_side_by_side_with_last(self):
        rows = tuple([(piece, ((None, 1),)) for piece in (1, 2, 3)])
        self.wrong(((None, ((None, 1),)), (0, ((None, 1), (1, 1)))) + rows, 0)
        self.wrong(rows[:2] + ((None, ((None, 1),)), (3, ((2, 1),))), 3)
        self.wrong(((None, ((0, 1),)), (0, ((3, 1), (0, 1))), rows[2]), 0)

    def test_a_next_without_a_row(self):
        self.wrong(((None, ((None, 1), (0, 1))),), None)
        self.wrong(((0, ((None, 1), (2, 1))), (None, ((0, 1),))), 0)

    def test_the_first_last_in_the_order_of_the_table(self):
        good, ends = (None, ((None, 1),)), ((None, 1),)
        self.wrong((good, (2, ((4, 1),)), (7, ends), (0, ((1, 1),)), (1, ((9, 1),))), 2)
        self.wrong((good, (7, ends), (2, ((4, 1),)), (0, ((1, 1),)), (1, ((9, 1),))), 7)
        self.wrong(((0, ((1, 1),)), (1, ((9, 1),)), (2, ((4, 1),)), (7, ends), good), 0)
        self.wrong(((1, ((9, 1),)), (7, ends), (None, ((4, 1),))), 1)
        self.wrong(((None, ((4, 1),)), (7, ends)), None)

    def test_against_what_the_document_says_in_drawn_tables(self):
        dice = Dice(97)
        joins = Joins(*EXAMPLE)
        lasts = (None, 0, 1, 2, 3, 4, 5, 6, -1)
        refused = 0
        for _ in range(1500):
            rest = list(lasts)
            drawn = [rest.pop(0 if dice.below(2) == 0 else dice.below(len(rest))) for _ in range(1 + dice.below(5))]
            table = []
            for last in drawn:
                choices = [drawn[dice.below(len(drawn))] if dice.below(9) else dice.below(8) for _ in range(dice.below(3))]
                table.append((last, tuple({following: 1 for following in choices + [None]}.items())))
            expected = self.wrong_lasts(joins, table)
            if expected:
                self.wrong(table, expected[0])
                refused += 1
            else:
                self.assertEqual(weights_of(Model(joins, table).table()), weights_of(table))
        self.assertTrue(300 < refused < 1200, refused)

    def wrong_lasts(self, joins, table):
        lasts = [last for last, _ in table]
        if None not in lasts:
            return [None]
        found = []
        for last, choices in table:
            pieces = [following for following, _ in choices if following is not None]
            if last not in (None, 0, 1, 2, 3, 4, 5) or not all([0 <= piece <= 5 for piece in pieces]):
                found.append(last)
            elif not all([(last is None or side_by_side(joins, last, piece)) and piece in lasts for piece in pieces]):
                found.append(last)
        return found

    def test_no_piece(self):
        model = Model(Joins(*EXAMPLE), TABLE)
        for call in (model.chance_of_begin, model.chance_of_row):
            for row, piece in (((6,), 6), ((3, -1, 9), -1), ([0, 0, HUGE, -HUGE], HUGE), ((5, 7), 7)):
                told_error(self, NoPiece, lambda: call(row), piece=piece)

    def test_unknown_signs(self):
        model = Model(Joins(*EXAMPLE), TABLE)
        for text, sign, at in (("x", "x", 0), ("abX", "X", 2), ("ccc ~", " ", 3)):
            told_error(self, UnknownSign, lambda: model.chance_of_text(text), sign=sign, at=at)


class Sizes(unittest.TestCase):
    def test_a_table_with_an_entry_for_each_piece(self):
        dice = Dice(7)
        for alphabet, pairs in large_lists():
            joins = Joins(alphabet, pairs)
            pieces = range(joins.pieces)
            table = []
            for last in [None] + list(pieces):
                fitting = [piece for piece in pieces if last is None or side_by_side(joins, last, piece)]
                table.append((last, [(None, 1)] + [(piece, 3 ** 400 + dice.below(1000)) for piece in fitting]))
            texts = literal_texts(alphabet, pairs)
            text = "".join([texts[dice.below(len(texts))] for _ in range(200)])
            row = cut(joins, text)[:200]
            with Quick(5):
                model = Model(joins, table)
                model.table()
                self.assertTrue(Share(0, 1).is_below(model.chance_of_row(row)))
                self.assertTrue(Share(0, 1).is_below(model.chance_of_text(text_of_row(joins, row)[:200])))

    def test_a_corpus_of_60_texts_of_200_letters(self):
        dice = Dice(5)
        for alphabet, pairs in large_lists() + [DOUBLING]:
            texts = literal_texts(alphabet, pairs)
            corpus = [("".join([texts[dice.below(len(texts))] for _ in range(200)])[:200], 10 ** 200 + at) for at in range(60)]
            with Quick(5):
                model = model_of(Joins(alphabet, pairs), corpus)
                self.assertTrue(Share(0, 1).is_below(model.chance_of_text(corpus[7][0])))


if __name__ == "__main__":
    unittest.main()
