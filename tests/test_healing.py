"""[30]: the pieces that may come next behind what is sure of a text."""

import unittest

from rankedjoins.errors import UnknownSign
from rankedjoins.grammars import Machine
from rankedjoins.healing import healed
from rankedjoins.joinlists import Joins
from rankedjoins.masks import lets, shortest_end
from rankedjoins.patterns import machine_of
from rankedjoins.plain import cut, text_of_row
from rankedjoins.streams import Stream
from support import (DOUBLING, EXAMPLE, Dice, Quick, drawn_machine, endings_of, finite_machine, large_lists, literal_takes,
                     literal_texts, many_machines, small_lists, sure_row, taken_up_to, texts_for, texts_up_to, told_error)

LONGEST = {1: 12, 2: 7, 3: 5}


def literal_next(joins, row, taken, text):
    """The pieces behind the row in the cuts of those of the texts that begin with this one."""
    cuts = [cut(joins, longer) for longer in taken if longer.startswith(text)]
    for found in cuts:
        if found[:len(row)] != row:
            raise AssertionError(f"{found} does not begin with {row}")
    return tuple(sorted(set([found[len(row)] for found in cuts if len(found) > len(row)])))


class Healing(unittest.TestCase):
    def setUp(self):
        self.joins = Joins(*EXAMPLE)

    def test_a_text_that_ends_inside_of_a_piece(self):
        # Of the example: a, b, c, ab, abc, aa are the pieces 0 to 5.
        machine = machine_of("abc", "a*(abc)*b?")
        self.assertEqual(healed(self.joins, machine, "ab"), ((), (3, 4)))
        self.assertEqual(healed(self.joins, machine, "aab"), ((0,), (3, 4)))
        self.assertEqual(healed(self.joins, machine, "a"), ((), (0, 3, 4, 5)))
        self.assertEqual(healed(self.joins, machine_of("abc", "abc"), "ab"), ((), (4,)))
        self.assertEqual(healed(self.joins, machine_of("abc", "(ab)*"), "aba"), ((3,), (3,)))

    def test_a_text_that_ends_with_a_piece_that_is_sure(self):
        machine = machine_of("abc", "(abc)*b?")
        self.assertEqual(healed(self.joins, machine, "abc"), ((4,), (1, 4)))
        self.assertEqual(healed(self.joins, machine, "abcb"), ((4, 1), ()))

    def test_the_empty_text(self):
        self.assertEqual(healed(self.joins, machine_of("abc", "a(abc)*b?"), ""), ((), (0, 3)))
        self.assertEqual(healed(self.joins, machine_of("abc", ""), ""), ((), ()))
        self.assertEqual(healed(self.joins, machine_of("abc", ".*"), ""), ((), (0, 1, 2, 3, 4, 5)))

    def test_machines_without_ends(self):
        for machine in (Machine("abc", 0, (), ((0, 0, 0),)), Machine("abc", 1, (0,), ((0, 0, 0), (1, 1, 1)))):
            for text, row in (("", ()), ("a", ()), ("abc", (4,)), ("aab", (0,)), ("cb", (2, 1))):
                self.assertEqual(healed(self.joins, machine, text), (row, ()))

    def test_texts_with_which_none_begins_that_is_taken(self):
        machine = machine_of("abc", "aab|b")
        for text, row in (("c", (2,)), ("bb", (1, 1)), ("aabc", (0, 4)), ("aaba", (0, 3)), ("ba", (1,))):
            self.assertEqual(healed(self.joins, machine, text), (row, ()))

    def test_texts_that_may_only_end_there(self):
        self.assertEqual(healed(self.joins, machine_of("abc", "abc"), "abc"), ((4,), ()))
        self.assertEqual(healed(self.joins, machine_of("abc", "ca?"), "ca"), ((2,), (0,)))
        self.assertEqual(healed(self.joins, machine_of("abc", "cb"), "cb"), ((2, 1), ()))
        # It may end there, too, and the piece that is not sure is then what comes next.
        self.assertEqual(healed(self.joins, machine_of("abc", "ab"), "ab"), ((), (3,)))

    def test_kinds_of_values_and_arguments_by_name(self):
        found = healed(joins=self.joins, machine=machine_of("abc", ".*"), text="aab")
        self.assertEqual([found.__class__, found[0].__class__, found[1].__class__], [tuple] * 3)
        found = healed(self.joins, machine_of("abc", ""), "b")
        self.assertEqual([found.__class__, found[0].__class__, found[1].__class__], [tuple] * 3)

    def test_what_is_done_later_to_what_was_passed_has_no_effect(self):
        pairs, ends, steps = [[0, 1]], [1], [[1, 0], [1, 1]]
        joins, machine = Joins("ab", pairs), Machine("ab", 0, ends, steps)
        pairs.pop()
        ends.pop()
        steps[0][0] = None
        self.assertEqual(healed(joins, machine, "a"), ((), (0, 2)))
        self.assertEqual((pairs, ends, steps), ([], [], [[None, 0], [1, 1]]))

    def test_unknown_signs(self):
        for machine in (machine_of("abc", "a*"), Machine("abc", 0, (), ((None,) * 3,))):
            for text, sign, at in (("x", "x", 0), ("bbA ", "A", 2), ("abc?", "?", 3)):
                told_error(self, UnknownSign, lambda: healed(self.joins, machine, text), sign=sign, at=at)


class Promises(unittest.TestCase):
    def test_finite_machines_all_texts_are_cut(self):
        dice = Dice(77)
        several = 0
        for alphabet, pairs in small_lists():
            joins = Joins(alphabet, pairs)
            pieces = literal_texts(alphabet, pairs)
            for many in (1, 4, 12):
                taken = sorted(set(["".join([pieces[dice.below(len(pieces))] for _ in range(1 + dice.below(5))]) for _ in range(many)]))
                machine = Machine(*finite_machine(alphabet, taken))
                for text in sorted(set([text[:end] for text in taken for end in range(len(text) + 1)])) + texts_up_to(alphabet, 2):
                    row, following = healed(joins, machine, text)
                    self.assertEqual(row, Stream(joins).feed(text))
                    self.assertEqual(following, literal_next(joins, row, taken, text))
                    several += len(following) > 1
        self.assertGreater(several, 60)

    def test_machines_that_take_texts_of_any_length(self):
        for alphabet, pairs in small_lists():
            joins = Joins(alphabet, pairs)
            endings = endings_of(alphabet, pairs)
            for values in many_machines(alphabet)[::2]:
                machine = Machine(*values)
                taken = taken_up_to(values, LONGEST[len(alphabet)])
                for text in texts_up_to(alphabet, 2) + [text for text in texts_for(alphabet, pairs, 1) if len(text) < 9]:
                    row, following = healed(joins, machine, text)
                    self.assertEqual(row, sure_row(joins, endings, text))
                    self.assertLessEqual(set(literal_next(joins, row, taken, text)), set(following))
                    self.assertEqual(list(following), sorted(set(following)))
                    for piece in following:
                        self.assertTrue(self.leads_on(joins, values, row + (piece,), text))

    def leads_on(self, joins, values, row, text):
        """Whether some text that is taken begins with this one and its cut with the row, looked for piece by piece."""
        machine = Machine(*values)
        waiting = [row]
        while waiting:
            found = waiting.pop()
            begun = text_of_row(joins, found)
            if begun.startswith(text):
                end = shortest_end(joins, machine, found)
                if end is not None:
                    longer = text_of_row(joins, found + end)
                    self.assertEqual(cut(joins, longer), found + end)
                    return literal_takes(values, longer)
            elif text.startswith(begun):
                waiting.extend([found + (piece,) for piece in lets(joins, machine, found)])
        return False


class Sizes(unittest.TestCase):
    def test_200_letters_a_list_of_60_joins_and_a_machine_of_12_states(self):
        dice = Dice(6)
        for alphabet, pairs in large_lists() + [DOUBLING]:
            joins = Joins(alphabet, pairs)
            pieces = literal_texts(alphabet, pairs)
            drawn = "".join([pieces[dice.below(len(pieces))] for _ in range(200)])[:200]
            for text in (drawn, alphabet[0] * 200):
                for gaps in (0, 9):
                    machine = Machine(*drawn_machine(dice, alphabet, 12, gaps, 6))
                    with Quick(5):
                        row, _ = healed(joins, machine, text)
                    self.assertEqual(row, Stream(joins).feed(text))


if __name__ == "__main__":
    unittest.main()
