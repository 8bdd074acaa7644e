"""[15], [16] and [28]: pages, gluing, cutting in parts."""

import unittest

from rankedjoins.errors import InvalidNumber, NotCut, UnknownSign
from rankedjoins.joinlists import Joins
from rankedjoins.pages import Page, cut_in_parts, glued
from rankedjoins.pairs import side_by_side
from rankedjoins.plain import cut, text_of_row
from support import (CHAIN_RIGHT, DOUBLING, EXAMPLE, HUGE, SIXTY, WRONG_NUMBERS, Dice, Quick, large_lists, literal_cut,
                     literal_texts, many_lists, texts_for)


class Editing(unittest.TestCase):
    def setUp(self):
        self.page = Page(Joins(*EXAMPLE), "aabcab")

    def holds(self, text):
        self.assertEqual(self.page.content(), text)
        self.assertEqual(len(self.page), len(text))
        self.assertEqual(self.page.cut_row(), literal_cut(*EXAMPLE, text))

    def test_a_new_page(self):
        self.holds("aabcab")
        self.assertEqual(self.page.cut_row(), (0, 4, 3))
        self.assertIs(self.page.cut_row().__class__, tuple)
        self.assertIs(self.page.undo(), False)
        self.assertIs(self.page.redo(), False)
        self.holds("aabcab")

    def test_edits_in_the_middle_at_the_beginning_and_at_the_end(self):
        self.assertIsNone(self.page.put_in(3, "bb"))
        self.holds("aabbbcab")
        self.assertIsNone(self.page.take_out(3, 2))
        self.holds("aabcab")
        self.page.put_in(0, "ca")
        self.holds("caaabcab")
        self.page.put_in(8, "c")
        self.holds("caaabcabc")
        self.page.take_out(0, 3)
        self.holds("abcabc")
        self.page.take_out(5, 1)
        self.holds("abcab")
        self.page.take_out(0, 5)
        self.holds("")
        self.page.put_in(0, "abc")
        self.holds("abc")

    def test_pages_of_no_letters(self):
        self.page = Page(Joins(*EXAMPLE), "")
        self.holds("")
        self.page.put_in(0, "")
        self.page.take_out(0, 0)
        self.assertEqual((self.page.undo(), self.page.redo()), (False, False))
        self.page.put_in(0, "ab")
        self.holds("ab")
        self.assertIs(self.page.undo(), True)
        self.holds("")

    def test_undo_and_redo_to_either_end(self):
        contents = ["aabcab"]
        for at, text in ((6, "c"), (0, "b"), (3, "aa")):
            self.page.put_in(at, text)
            contents.append(self.page.content())
        self.page.take_out(1, 4)
        contents.append(self.page.content())
        self.assertIs(self.page.redo(), False)
        for _ in range(2):
            for content in contents[-2::-1]:
                self.assertIs(self.page.undo(), True)
                self.holds(content)
            self.assertIs(self.page.undo(), False)
            self.holds(contents[0])
            for content in contents[1:]:
                self.assertIs(self.page.redo(), True)
                self.holds(content)
            self.assertIs(self.page.redo(), False)
            self.holds(contents[-1])

    def test_an_edit_behind_an_undo_leaves_nothing_to_redo(self):
        self.page.put_in(0, "a")
        self.page.put_in(0, "b")
        self.page.undo()
        self.page.undo()
        self.page.redo()
        self.page.put_in(0, "c")
        self.assertIs(self.page.redo(), False)
        self.holds("caaabcab")
        self.page.undo()
        self.holds("aaabcab")
        self.page.take_out(0, 1)
        self.assertIs(self.page.redo(), False)
        self.assertEqual([self.page.undo() for _ in range(3)], [True, True, False])
        self.holds("aabcab")

    def test_edits_of_no_letters_are_none(self):
        self.page.put_in(6, "c")
        self.page.put_in(0, "")
        self.page.put_in(7, "")
        self.page.take_out(7, 0)
        self.page.take_out(0, 0)
        self.holds("aabcabc")
        self.assertIs(self.page.undo(), True)
        self.holds("aabcab")
        self.page.put_in(3, "")
        self.page.take_out(3, 0)
        self.assertIs(self.page.undo(), False)
        self.assertIs(self.page.redo(), True)
        self.holds("aabcabc")

    def test_letters_that_are_taken_out_and_put_in_again_are_two_edits(self):
        self.page.take_out(0, 1)
        self.page.put_in(0, "a")
        self.holds("aabcab")
        self.assertEqual([self.page.undo() for _ in range(3)], [True, True, False])

    def test_arguments_by_name(self):
        self.page = Page(joins=Joins(*EXAMPLE), text="ab")
        self.page.put_in(at=2, text="c")
        self.page.take_out(at=0, many=1)
        self.holds("bc")

    def test_pages_know_nothing_of_each_other(self):
        joins = Joins(*EXAMPLE)
        other = Page(joins, "ab")
        self.page.put_in(0, "c")
        self.assertEqual((other.content(), other.undo()), ("ab", False))


class WrongEdits(unittest.TestCase):
    def setUp(self):
        self.page = Page(Joins(*EXAMPLE), "aabcab")
        self.page.put_in(6, "c")
        self.page.put_in(7, "c")
        self.page.undo()

    def refused(self, error, call, *arguments):
        with self.assertRaises(error) as caught:
            call(*arguments)
        self.assertEqual((self.page.content(), self.page.cut_row(), len(self.page)), ("aabcabc", (0, 4, 4), 7))
        return caught.exception

    def tearDown(self):
        self.assertIs(self.page.redo(), True)
        self.assertEqual(self.page.content(), "aabcabcc")
        self.assertEqual([self.page.undo() for _ in range(3)], [True, True, False])
        self.assertEqual(self.page.content(), "aabcab")

    def test_places(self):
        for value in WRONG_NUMBERS + (8, 9):
            for text in ("a", "", "x"):
                self.assertIs(self.refused(InvalidNumber, self.page.put_in, value, text).number, value)
            for many in (0, 1, 99, None, [0]):
                self.assertIs(self.refused(InvalidNumber, self.page.take_out, value, many).number, value)

    def test_how_many(self):
        for at in (0, 3, 7):
            for value in WRONG_NUMBERS + (8 - at, 9 - at):
                self.assertIs(self.refused(InvalidNumber, self.page.take_out, at, value).number, value)

    def test_unknown_signs_have_their_place_in_the_text_that_is_put_in(self):
        for at in (0, 3, 7):
            for text, sign, place in (("x", "x", 0), ("abx", "x", 2), ("aAyx", "A", 1)):
                error = self.refused(UnknownSign, self.page.put_in, at, text)
                self.assertEqual((error.sign, error.at), (sign, place))

    def test_a_page_of_a_text_with_unknown_signs(self):
        for text, sign, at in (("x", "x", 0), ("abx", "x", 2), ("aAyx", "A", 1)):
            error = self.refused(UnknownSign, Page, Joins(*EXAMPLE), text)
            self.assertEqual((error.sign, error.at), (sign, at))


class Gluing(unittest.TestCase):
    def setUp(self):
        self.joins = Joins(*EXAMPLE)

    def test_some_cuts(self):
        self.assertEqual(glued(self.joins, (0,), (1,)), (3,))
        self.assertEqual(glued(self.joins, (5,), (1, 2)), (0, 4))
        self.assertEqual(glued(self.joins, [4, 3], [2]), (4, 4))
        self.assertEqual(glued(self.joins, (4,), (4,)), (4, 4))

    def test_the_empty_cut(self):
        for row in ((), (0,), (0, 4, 3)):
            self.assertEqual(glued(self.joins, row, ()), row)
            self.assertEqual(glued(self.joins, [], list(row)), row)

    def test_rows_that_are_no_cuts(self):
        for wrong in ((0, 1), (0, 0), (6,), (-1,), (0, 4, 3, 2), (HUGE,), (0, -HUGE)):
            for row in (wrong, list(wrong)):
                for arguments in ((row, (0,)), ((0,), row), (row, (3, 2)), (row, ()), ((), row)):
                    with self.assertRaises(NotCut) as caught:
                        glued(self.joins, *arguments)
                    self.assertEqual(caught.exception.row, wrong)
                    self.assertIs(caught.exception.row.__class__, tuple)

    def test_arguments_by_name_and_nothing_changed(self):
        left, right = [4, 3], [2, 0]
        self.assertEqual(glued(joins=self.joins, right=right, left=left), (4, 4, 0))
        self.assertEqual((left, right), ([4, 3], [2, 0]))

    def test_it_is_the_cut_of_both_texts_and_left_and_right_just_if_they_stay_apart(self):
        together = 0
        for alphabet, pairs in many_lists():
            joins = Joins(alphabet, pairs)
            rows = [cut(joins, text) for text in texts_for(alphabet, pairs, 4)]
            for left in rows:
                for right in rows:
                    row = glued(joins, left, right)
                    self.assertEqual(row, cut(joins, text_of_row(joins, left) + text_of_row(joins, right)))
                    apart = not left or not right or side_by_side(joins, left[-1], right[0])
                    self.assertIs(row == left + right, apart)
                    together += not apart
        self.assertGreater(together, 200)

    def test_however_they_are_grouped(self):
        dice = Dice(77)
        for alphabet, pairs in many_lists():
            joins = Joins(alphabet, pairs)
            rows = [cut(joins, text) for text in texts_for(alphabet, pairs, 4)]
            for _ in range(6):
                first, second, third = [rows[dice.below(len(rows))] for _ in range(3)]
                row = glued(joins, glued(joins, first, second), third)
                self.assertEqual(row, glued(joins, first, glued(joins, second, third)))
                self.assertEqual(row, cut(joins, text_of_row(joins, first + second + third)))


class Parts(unittest.TestCase):
    def test_some_texts(self):
        joins = Joins(*EXAMPLE)
        self.assertEqual(cut_in_parts(joins, ("aab", "c", "", "ab")), (0, 4, 3))
        self.assertEqual(cut_in_parts(joins, ["a", "b", "c"]), (4,))
        for texts in ((), [], ("",), ("", "", "")):
            self.assertEqual(cut_in_parts(joins, texts), ())

    def test_unknown_signs_have_their_place_in_their_own_text(self):
        joins = Joins(*EXAMPLE)
        for texts, sign, at in ((("ab", "cx"), "x", 1), (("", "x", "y"), "x", 0), (["abc", "ab", "bb~ ", "!"], "~", 2)):
            with self.assertRaises(UnknownSign) as caught:
                cut_in_parts(joins, texts)
            self.assertEqual((caught.exception.sign, caught.exception.at), (sign, at))

    def test_arguments_by_name_and_nothing_changed(self):
        texts = ["a", "bc"]
        self.assertEqual(cut_in_parts(joins=Joins(*EXAMPLE), texts=texts), (4,))
        self.assertEqual(texts, ["a", "bc"])

    def test_it_is_the_cut_of_all_together(self):
        dice = Dice(13)
        for alphabet, pairs in many_lists():
            joins = Joins(alphabet, pairs)
            for text in texts_for(alphabet, pairs, 3):
                places = sorted([dice.below(len(text) + 1) for _ in range(6)])
                texts = [text[begin:end] for begin, end in zip([0] + places, places + [len(text)])]
                self.assertEqual(cut_in_parts(joins, texts), literal_cut(alphabet, pairs, text))


class Promises(unittest.TestCase):
    def test_the_cut_after_any_edits(self):
        dice = Dice(99)
        for alphabet, pairs in many_lists():
            joins = Joins(alphabet, pairs)
            pieces = literal_texts(alphabet, pairs)
            page = Page(joins, dice.text(alphabet, 5))
            done, undone = [], []
            for _ in range(25):
                text = page.content()
                kind = dice.below(6)
                at = dice.below(len(text) + 1)
                if kind < 2 and len(text) < 150:
                    page.put_in(at, pieces[dice.below(len(pieces))])
                    done, undone = done + [text], []
                elif kind < 4 and at < len(text):
                    page.take_out(at, 1 + dice.below(min(4, len(text) - at)))
                    done, undone = done + [text], []
                elif kind == 4:
                    self.assertIs(page.undo(), done != [])
                    if done:
                        undone.append(text)
                        self.assertEqual(page.content(), done.pop())
                else:
                    self.assertIs(page.redo(), undone != [])
                    if undone:
                        done.append(text)
                        self.assertEqual(page.content(), undone.pop())
                self.assertEqual(page.cut_row(), cut(joins, page.content()))
                self.assertEqual(len(page), len(page.content()))


class Sizes(unittest.TestCase):
    def test_200_letters_and_200_edits(self):
        for alphabet, pairs in large_lists():
            joins = Joins(alphabet, pairs)
            page = Page(joins, (alphabet * 200)[:199])
            with Quick(5):
                for at in range(100):
                    page.put_in(at * 2, alphabet[-1])
                    self.assertEqual(page.cut_row(), cut(joins, page.content()))
                    page.take_out(199 - at, 1)
                while page.undo():
                    page.cut_row()
            self.assertEqual(page.content(), (alphabet * 200)[:199])

    def test_rows_of_200_pieces(self):
        for alphabet, pairs in (DOUBLING, SIXTY, CHAIN_RIGHT) + tuple(large_lists()):
            joins = Joins(alphabet, pairs)
            pieces = literal_texts(alphabet, pairs)
            dice = Dice(21)
            row = cut(joins, "".join([pieces[dice.below(len(pieces))] for _ in range(400)]))[:200]
            with Quick(5):
                self.assertEqual(glued(joins, row, row), cut(joins, text_of_row(joins, row) * 2))

    def test_20_texts_of_200_letters(self):
        joins = Joins(*DOUBLING)
        with Quick(2):
            self.assertEqual(cut_in_parts(joins, ("a" * 10,) * 20), (5, 5, 5, 5, 5, 6))


if __name__ == "__main__":
    unittest.main()
