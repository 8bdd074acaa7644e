"""[17] and [18]: cuts, texts and ways that are counted and numbered."""

import unittest

from rankedjoins.counting import (count_cuts, count_ways, cut_of_number, number_of_cut, number_of_way, texts_by_pieces,
                                  way_of_number, ways)
from rankedjoins.errors import InvalidNumber, NoPiece, NotCut, UnknownSign
from rankedjoins.joinlists import Joins
from rankedjoins.plain import cut, text_of_row
from support import (ALPHABET_OF_30, DOUBLING, EXAMPLE, HUGE, WRONG_NUMBERS, Dice, Quick, all_texts, cuts_with, large_lists,
                     literal_texts, many_lists, small_lists, texts_for)


def literal_ways(alphabet, pairs, text):
    """All rows of pieces with this text, ascending, piece by piece."""
    if text == "":
        return [()]
    found = []
    for piece, piece_text in enumerate(literal_texts(alphabet, pairs)):
        if text.startswith(piece_text):
            found += [(piece,) + row for row in literal_ways(alphabet, pairs, text[len(piece_text):])]
    return sorted(found)


class CountingCuts(unittest.TestCase):
    def test_the_example(self):
        joins = Joins(*EXAMPLE)
        self.assertEqual([count_cuts(joins, many) for many in (0, 1, 2)], [1, 6, len(cuts_with(*EXAMPLE, 2))])
        self.assertEqual(number_of_cut(joins, (4,)), 4)
        self.assertEqual(cut_of_number(joins, 1, 5), (5,))

    def test_no_join(self):
        joins = Joins("ab", ())
        self.assertEqual([count_cuts(joins, many) for many in (0, 1, 2, 30)], [1, 2, 4, 2 ** 30])
        self.assertEqual(number_of_cut(joins, (1, 0, 1)), 5)
        self.assertEqual(cut_of_number(joins, 3, 5), (1, 0, 1))
        self.assertEqual(count_cuts(Joins("a", ()), 30), 1)
        self.assertEqual(count_cuts(Joins(ALPHABET_OF_30, ()), 30), 30 ** 30)

    def test_none_one_and_two_pieces(self):
        for alphabet, pairs in many_lists():
            joins = Joins(alphabet, pairs)
            self.assertEqual(count_cuts(joins, 0), 1)
            self.assertEqual(number_of_cut(joins, ()), 0)
            self.assertEqual(cut_of_number(joins, 0, 0), ())
            self.assertEqual(count_cuts(joins, 1), joins.pieces)
            self.assertEqual([number_of_cut(joins, [piece]) for piece in range(joins.pieces)], list(range(joins.pieces)))
            self.assertEqual(cut_of_number(joins, 1, joins.pieces - 1), (joins.pieces - 1,))

    def test_all_two_pieces(self):
        for alphabet, pairs in many_lists():
            if len(alphabet) + len(pairs) > 24:
                continue
            joins = Joins(alphabet, pairs)
            rows = cuts_with(alphabet, pairs, 2)
            self.assertEqual(count_cuts(joins, 2), len(rows))
            self.assertEqual([cut_of_number(joins, 2, number) for number in range(len(rows))], rows)
            self.assertEqual([number_of_cut(joins, row) for row in rows], list(range(len(rows))))

    def test_all_cuts_of_small_lists(self):
        for alphabet, pairs in small_lists():
            joins = Joins(alphabet, pairs)
            for many in (3, 4):
                if joins.pieces ** many > 1500:
                    continue
                rows = cuts_with(alphabet, pairs, many)
                self.assertEqual(count_cuts(joins, many), len(rows))
                self.assertEqual([cut_of_number(joins, many, number) for number in range(len(rows))], rows)
                self.assertEqual([number_of_cut(joins, row) for row in rows], list(range(len(rows))))

    def test_numbers_and_cuts_belong_together(self):
        dice = Dice(31)
        for alphabet, pairs in many_lists():
            joins = Joins(alphabet, pairs)
            for many in (5, 17, 30):
                count = count_cuts(joins, many)
                self.assertGreater(count, 0)
                last = None
                for number in sorted([0, count - 1, count // 2] + [dice.below(count) for _ in range(3)]):
                    row = cut_of_number(joins, many, number)
                    self.assertEqual(len(row), many)
                    self.assertEqual(cut(joins, text_of_row(joins, row)), row)
                    self.assertEqual(number_of_cut(joins, list(row)), number)
                    self.assertTrue(last is None or last <= row)
                    last = row

    def test_rows_that_are_no_cuts(self):
        joins = Joins(*EXAMPLE)
        for wrong in ((0, 1), (0, 0), (6,), (-1,), (0, 4, 3, 2), (HUGE,), (0, -HUGE)):
            for row in (wrong, list(wrong)):
                with self.assertRaises(NotCut) as caught:
                    number_of_cut(joins, row)
                self.assertEqual(caught.exception.row, wrong)
                self.assertIs(caught.exception.row.__class__, tuple)

    def test_wrong_numbers(self):
        joins = Joins(*EXAMPLE)
        for many in (0, 1, 2, 30):
            count = count_cuts(joins, many)
            for value in WRONG_NUMBERS + (count, count + 1):
                with self.assertRaises(InvalidNumber) as caught:
                    cut_of_number(joins, many, value)
                self.assertIs(caught.exception.number, value)

    def test_arguments_by_name_and_nothing_changed(self):
        joins = Joins(*EXAMPLE)
        row = [0, 4, 3]
        number = number_of_cut(joins=joins, row=row)
        self.assertEqual(cut_of_number(joins=joins, many=3, number=number), (0, 4, 3))
        self.assertEqual(count_cuts(joins=joins, many=1), 6)
        self.assertEqual(texts_by_pieces(joins=joins, many=1), (0, 3))
        self.assertEqual(row, [0, 4, 3])


class TextsByPieces(unittest.TestCase):
    def test_no_one_and_two_letters(self):
        for alphabet, pairs in many_lists():
            joins = Joins(alphabet, pairs)
            letters = len(alphabet)
            self.assertEqual(texts_by_pieces(joins, 0), (1,))
            self.assertEqual(texts_by_pieces(joins, 1), (0, letters))
            joined = len([pair for pair in pairs if max(pair) < letters])
            self.assertEqual(texts_by_pieces(joins, 2), (0, joined, letters ** 2 - joined))

    def test_all_texts_are_cut(self):
        for alphabet, pairs in small_lists():
            joins = Joins(alphabet, pairs)
            for many in range({1: 16, 2: 7, 3: 4}[len(alphabet)] + 1):
                counts = [0] * (many + 1)
                for text in all_texts(alphabet, many):
                    counts[len(cut(joins, text))] += 1
                self.assertEqual(texts_by_pieces(joins, many), tuple(counts))

    def test_the_sum_is_the_number_of_letters_to_the_power_of_many(self):
        for alphabet, pairs in many_lists():
            joins = Joins(alphabet, pairs)
            for many in (3, 9, 16):
                counts = texts_by_pieces(joins, many)
                self.assertEqual(len(counts), many + 1)
                self.assertEqual(sum(counts), len(alphabet) ** many)

    def test_no_join(self):
        self.assertEqual(texts_by_pieces(Joins(ALPHABET_OF_30, ()), 16), (0,) * 16 + (30 ** 16,))


class Ways(unittest.TestCase):
    def test_the_example(self):
        joins = Joins(*EXAMPLE)
        expected = [(0, 0, 1, 2), (0, 3, 2), (0, 4), (5, 1, 2)]
        self.assertEqual(list(ways(joins, "aabc")), expected)
        self.assertEqual(count_ways(joins, "aabc"), 4)
        self.assertEqual([way_of_number(joins, "aabc", number) for number in range(4)], expected)
        self.assertEqual([number_of_way(joins, row) for row in expected], [0, 1, 2, 3])

    def test_the_empty_text_and_row(self):
        for alphabet, pairs in many_lists():
            joins = Joins(alphabet, pairs)
            self.assertEqual(list(ways(joins, "")), [()])
            self.assertEqual(count_ways(joins, ""), 1)
            self.assertEqual(way_of_number(joins, "", 0), ())
            self.assertEqual(number_of_way(joins, ()), 0)
            self.assertEqual(number_of_way(joins, []), 0)

    def test_all_ways_of_texts_of_many_lists(self):
        for alphabet, pairs in many_lists():
            joins = Joins(alphabet, pairs)
            for text in sorted(set([text[:10] for text in texts_for(alphabet, pairs, 3)])):
                expected = literal_ways(alphabet, pairs, text)
                found = list(ways(joins, text))
                self.assertEqual(found, expected)
                self.assertEqual(set([row.__class__ for row in found]), set([tuple]))
                self.assertEqual(count_ways(joins, text), len(expected))
                for number in sorted(set([0, 1, len(expected) // 2, len(expected) - 1]) & set(range(len(expected)))):
                    self.assertEqual(way_of_number(joins, text, number), expected[number])
                    self.assertEqual(number_of_way(joins, list(expected[number])), number)

    def test_long_texts(self):
        dice = Dice(67)
        for alphabet, pairs in many_lists():
            joins = Joins(alphabet, pairs)
            pieces = literal_texts(alphabet, pairs)
            text = "".join([pieces[dice.below(len(pieces))] for _ in range(200)])[:200]
            count = count_ways(joins, text)
            rows = []
            for number in sorted([0, count - 1, count // 2, count // 3, count * 2 // 3]):
                row = way_of_number(joins, text, number)
                self.assertEqual(text_of_row(joins, row), text)
                self.assertEqual(number_of_way(joins, row), number)
                rows.append(row)
            self.assertEqual(rows, sorted(rows))

    def test_ways_are_not_only_cuts(self):
        joins = Joins("a", ((0, 0),))
        self.assertEqual(list(ways(joins, "aaa")), [(0, 0, 0), (0, 1), (1, 0)])
        self.assertEqual(number_of_way(joins, (0, 1)), 1)

    def test_ways_is_a_generator(self):
        found = ways(Joins(*EXAMPLE), "ab")
        self.assertEqual((next(found), next(found)), ((0, 1), (3,)))
        with self.assertRaises(StopIteration):
            next(found)

    def test_the_first_ways_come_without_all_the_others(self):
        with Quick(2):
            found = ways(Joins(*DOUBLING), "a" * 200)
            self.assertEqual(next(found), (0,) * 200)
            self.assertEqual(next(found), (0,) * 198 + (1,))

    def test_unknown_signs(self):
        joins = Joins(*EXAMPLE)
        for text, sign, at in (("x", "x", 0), ("abx", "x", 2), ("aAyx", "A", 1)):
            calls = [lambda text=text: count_ways(joins, text)]
            for value in (0, 99, None, [0], HUGE):
                calls.append(lambda text=text, value=value: way_of_number(joins, text, value))
            found = ways(joins, text)
            calls.append(lambda found=found: next(found))
            calls.append(lambda text=text: list(ways(joins, text)))
            for call in calls:
                with self.assertRaises(UnknownSign) as caught:
                    call()
                self.assertEqual((caught.exception.sign, caught.exception.at), (sign, at))

    def test_wrong_numbers(self):
        joins = Joins(*EXAMPLE)
        for text in ("", "a", "aabc", "ab" * 20):
            count = count_ways(joins, text)
            for value in WRONG_NUMBERS + (count, count + 1):
                with self.assertRaises(InvalidNumber) as caught:
                    way_of_number(joins, text, value)
                self.assertIs(caught.exception.number, value)

    def test_rows_with_what_is_no_piece(self):
        joins = Joins(*EXAMPLE)
        for row, piece in (((6,), 6), ((0, -1, 7), -1), ([5, HUGE], HUGE), ((0, 1, 2, 6, -6), 6), ([-HUGE], -HUGE)):
            with self.assertRaises(NoPiece) as caught:
                number_of_way(joins, row)
            self.assertEqual(caught.exception.piece, piece)

    def test_arguments_by_name_and_nothing_changed(self):
        joins = Joins(*EXAMPLE)
        row = [0, 4]
        self.assertEqual(number_of_way(joins=joins, row=row), 2)
        self.assertEqual(way_of_number(joins=joins, text="aabc", number=2), (0, 4))
        self.assertEqual(count_ways(joins=joins, text="ab"), 2)
        self.assertEqual(list(ways(joins=joins, text="ab")), [(0, 1), (3,)])
        self.assertEqual(row, [0, 4])


class Sizes(unittest.TestCase):
    def test_the_greatest_numbers_of_pieces_and_letters(self):
        for alphabet, pairs in large_lists():
            joins = Joins(alphabet, pairs)
            with Quick(5):
                count = count_cuts(joins, 30)
                self.assertEqual(number_of_cut(joins, cut_of_number(joins, 30, count - 1)), count - 1)
            with Quick(5):
                self.assertEqual(sum(texts_by_pieces(joins, 16)), len(alphabet) ** 16)

    def test_rows_of_200_pieces(self):
        dice = Dice(43)
        for alphabet, pairs in large_lists():
            joins = Joins(alphabet, pairs)
            pieces = literal_texts(alphabet, pairs)
            row = cut(joins, "".join([pieces[dice.below(len(pieces))] for _ in range(400)]))[:200]
            with Quick(5):
                number = number_of_cut(joins, row)
            self.assertEqual(cut_of_number(joins, len(row), number), row)
            with Quick(5):
                number = number_of_way(joins, row)
            self.assertEqual(way_of_number(joins, text_of_row(joins, row), number), row)

    def test_all_ways_of_10_letters(self):
        joins = Joins("a", ((0, 0), (1, 0)))
        with Quick(2):
            self.assertEqual(len(list(ways(joins, "a" * 10))), count_ways(joins, "a" * 10))


if __name__ == "__main__":
    unittest.main()
