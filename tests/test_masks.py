"""[22]: the pieces that lead on to a text of a machine."""

import itertools
import unittest

from rankedjoins.errors import NotCut
from rankedjoins.grammars import Machine
from rankedjoins.joinlists import Joins
from rankedjoins.masks import lets, may_end, shortest_end
from rankedjoins.patterns import machine_of
from rankedjoins.plain import cut, text_of_row
from support import (DOUBLING, EXAMPLE, HUGE, Dice, Quick, drawn_machine, finite_machine, large_lists, literal_takes,
                     literal_texts, many_machines, small_lists, taken_up_to, texts_up_to)

LONGEST = {1: 12, 2: 7, 3: 5}


def first_shortest(joins, machine, row, most):
    """The first row of at most so many pieces that goes on from the row to a cut that is taken, all rows gone through."""
    for many in range(most + 1):
        for more in itertools.product(range(joins.pieces), repeat=many):
            text = text_of_row(joins, tuple(row) + more)
            if literal_takes(machine, text) and cut(joins, text) == tuple(row) + more:
                return more
    return None


class Masks(unittest.TestCase):
    def setUp(self):
        self.joins = Joins(*EXAMPLE)

    def test_the_example(self):
        machine = machine_of("abc", "a(abc)*b?")
        self.assertEqual(lets(self.joins, machine, ()), (0, 3))
        self.assertEqual(lets(self.joins, machine, (0,)), (4,))
        self.assertEqual(lets(self.joins, machine, [0, 4]), (1, 4))
        self.assertEqual([may_end(self.joins, machine, row) for row in ((), (0,), (3,), (0, 4), (0, 3))],
                         [False, True, True, True, False])
        self.assertEqual(shortest_end(self.joins, machine, ()), (0,))
        self.assertEqual(shortest_end(self.joins, machine, [0, 4]), ())

    def test_kinds_of_values_and_arguments_by_name(self):
        machine = machine_of("abc", "abc")
        row = []
        self.assertEqual(lets(joins=self.joins, machine=machine, row=row), (4,))
        self.assertIs(may_end(joins=self.joins, machine=machine, row=row), False)
        self.assertEqual(shortest_end(joins=self.joins, machine=machine, row=row), (4,))
        self.assertEqual(row, [])
        row = [4]
        self.assertIs(lets(self.joins, machine, row).__class__, tuple)
        self.assertIs(may_end(self.joins, machine, row), True)
        self.assertIs(shortest_end(self.joins, machine, row).__class__, tuple)
        self.assertEqual(row, [4])

    def test_lists_that_are_handed_in_and_changed_later(self):
        pairs = [[0, 1], [3, 2]]
        ends, steps = [1], [[1, None, None], [None, 0, None]]
        joins, machine = Joins("abc", pairs), Machine("abc", 0, ends, steps)
        pairs[0][1] = 0
        pairs.pop()
        ends.append(0)
        steps[1][1] = None
        self.assertEqual(lets(joins, machine, ()), (0, 3))
        self.assertEqual(lets(joins, machine, (3,)), (0, 3))
        self.assertIs(may_end(joins, machine, ()), False)
        self.assertEqual(shortest_end(joins, machine, (3,)), (0,))

    def test_a_text_that_can_be_written_is_not_enough_it_must_be_cut_so(self):
        # "ab" is taken, but never cut into a and b.
        machine = machine_of("abc", "ab")
        self.assertEqual(lets(self.joins, machine, ()), (3,))
        self.assertEqual(lets(self.joins, machine, (0,)), ())
        self.assertIsNone(shortest_end(self.joins, machine, (0,)))

    def test_a_piece_behind_which_nothing_may_follow(self):
        joins = Joins("a", ((0, 0),))
        self.assertEqual(lets(joins, machine_of("a", "a*"), (0,)), ())
        self.assertEqual(lets(joins, machine_of("a", "a*"), (1,)), (0, 1))
        self.assertEqual(lets(joins, machine_of("a", "aaa"), ()), (1,))
        self.assertEqual(shortest_end(joins, machine_of("a", "aaa"), ()), (1, 0))
        self.assertEqual(shortest_end(joins, machine_of("a", "aaa"), (1,)), (0,))
        self.assertIsNone(shortest_end(joins, machine_of("a", "aaa"), (0,)))

    def test_rows_whose_text_leaves_the_machine(self):
        machine = machine_of("abc", "a*")
        for row in ((1,), (4, 0), (0, 4)):
            self.assertEqual(lets(self.joins, machine, row), ())
            self.assertIs(may_end(self.joins, machine, row), False)
            self.assertIsNone(shortest_end(self.joins, machine, row))

    def test_machines_without_ends_and_with_one_state(self):
        for machine in (Machine("abc", 0, (), ((0, 0, 0),)), Machine("abc", 1, (0,), ((0, 0, 0), (1, 1, 1)))):
            for row in ((), (0,), (0, 4, 3)):
                self.assertEqual(lets(self.joins, machine, row), ())
                self.assertIs(may_end(self.joins, machine, row), False)
                self.assertIsNone(shortest_end(self.joins, machine, row))
        machine = Machine("abc", 0, [0], [[0, 0, 0]])
        self.assertEqual(lets(self.joins, machine, ()), (0, 1, 2, 3, 4, 5))
        self.assertEqual(lets(self.joins, machine, (0,)), (2, 3, 4))
        self.assertEqual(shortest_end(self.joins, machine, (0, 4, 3)), ())
        machine = Machine("abc", 0, [0], [[None, None, None]])
        self.assertEqual(lets(self.joins, machine, ()), ())
        self.assertIs(may_end(self.joins, machine, ()), True)
        self.assertEqual(shortest_end(self.joins, machine, ()), ())

    def test_lists_without_joins(self):
        joins = Joins("ab", ())
        machine = machine_of("ab", "(ab)+")
        self.assertEqual(lets(joins, machine, ()), (0,))
        self.assertEqual(lets(joins, machine, (0, 1, 0)), (1,))
        self.assertEqual(shortest_end(joins, machine, ()), (0, 1))
        self.assertEqual(shortest_end(joins, machine, (0, 1)), ())

    def test_fewest_pieces_count_ahead_of_fewest_letters_and_ascending_order(self):
        machine = machine_of("abc", "ca|abcabc|cab|bbb")
        self.assertEqual(shortest_end(self.joins, machine, ()), (2, 0))
        machine = machine_of("abc", "cc|abcabc|bbb")
        self.assertEqual(shortest_end(self.joins, machine, ()), (2, 2))
        machine = machine_of("abc", "bbb|abcabc|cca")
        self.assertEqual(shortest_end(self.joins, machine, ()), (4, 4))


class WrongRows(unittest.TestCase):
    def test_rows_that_are_no_cuts(self):
        joins = Joins(*EXAMPLE)
        for machine in (machine_of("abc", ".*"), Machine("abc", 0, (), ((None, None, None),))):
            for wrong in ((0, 1), (0, 0), (6,), (-1,), (0, 4, 3, 2), (HUGE,), (0, -HUGE), (4, 6)):
                for row in (wrong, list(wrong)):
                    for call in (lets, may_end, shortest_end):
                        with self.assertRaises(NotCut) as caught:
                            call(joins, machine, row)
                        self.assertEqual(caught.exception.row, wrong)
                        self.assertIs(caught.exception.row.__class__, tuple)


class Promises(unittest.TestCase):
    def test_finite_machines_all_texts_are_cut(self):
        dice = Dice(71)
        several = 0
        for alphabet, pairs in small_lists():
            joins = Joins(alphabet, pairs)
            pieces = literal_texts(alphabet, pairs)
            for many in (1, 3, 6):
                texts = ["".join([pieces[dice.below(len(pieces))] for _ in range(1 + dice.below(4))]) for _ in range(many)]
                values = finite_machine(alphabet, sorted(set(texts)))
                machine = Machine(*values)
                cuts = [cut(joins, text) for text in sorted(set(texts))]
                beginnings = set([row[:at] for row in cuts for at in range(len(row) + 1)])
                others = [cut(joins, dice.text(alphabet, 1 + dice.below(4))) for _ in range(4)]
                for row in sorted(beginnings) + others:
                    behind = [found[len(row):] for found in cuts if found[:len(row)] == row]
                    expected = tuple(sorted(set([more[0] for more in behind if more])))
                    self.assertEqual(lets(joins, machine, row), expected)
                    self.assertIs(may_end(joins, machine, list(row)), row in cuts)
                    shortest = min(behind, key=lambda more: (len(more), more), default=None)
                    self.assertEqual(shortest_end(joins, machine, list(row)), shortest)
                    several += len(expected) > 1
        self.assertGreater(several, 30)

    def test_lets_are_the_next_pieces_of_the_cuts_of_texts_that_are_taken(self):
        for alphabet, pairs in small_lists():
            joins = Joins(alphabet, pairs)
            for values in many_machines(alphabet):
                machine = Machine(*values)
                cuts = [cut(joins, text) for text in taken_up_to(values, LONGEST[len(alphabet)])]
                rows = [cut(joins, text) for text in texts_up_to(alphabet, 2)]
                for row in rows:
                    found = lets(joins, machine, row)
                    self.assertEqual(list(found), sorted(set(found)))
                    following = set([more[len(row)] for more in cuts if more[:len(row)] == row and len(more) > len(row)])
                    self.assertLessEqual(following, set(found))
                    for piece in found:
                        # Each of them is on the way to a text that is taken and whose cut begins so.
                        end = shortest_end(joins, machine, row + (piece,))
                        text = text_of_row(joins, row + (piece,) + end)
                        self.assertEqual(cut(joins, text), row + (piece,) + end)
                        self.assertTrue(literal_takes(values, text))
                    self.assertIs(may_end(joins, machine, row), literal_takes(values, text_of_row(joins, row)))

    def test_the_shortest_end_is_the_first_of_all_rows_with_the_fewest_pieces(self):
        none = 0
        for alphabet, pairs in small_lists():
            joins = Joins(alphabet, pairs)
            most = 4 if joins.pieces < 6 else 3
            for values in many_machines(alphabet)[::2]:
                machine = Machine(*values)
                for row in ((), (0,), (joins.pieces - 1,)):
                    found = shortest_end(joins, machine, row)
                    expected = first_shortest(joins, values, row, most)
                    if expected is None:
                        self.assertTrue(found is None or len(found) > most)
                        none += found is None
                    else:
                        self.assertEqual(found, expected)
                    self.assertIs(found is None, lets(joins, machine, row) == () and not may_end(joins, machine, row))
        self.assertGreater(none, 20)

    def test_large_lists_and_machines(self):
        dice = Dice(17)
        for alphabet, pairs in large_lists():
            joins = Joins(alphabet, pairs)
            values = drawn_machine(dice, alphabet, 12, 6, 9)
            machine = Machine(*values)
            row = ()
            for _ in range(12):
                found = lets(joins, machine, row)
                end = shortest_end(joins, machine, row)
                if end is not None:
                    text = text_of_row(joins, row + end)
                    self.assertEqual(cut(joins, text), row + end)
                    self.assertTrue(literal_takes(values, text))
                if not found:
                    break
                row += (found[dice.below(len(found))],)


class Sizes(unittest.TestCase):
    def test_a_list_of_60_joins_a_machine_of_12_states_a_row_of_200_pieces(self):
        dice = Dice(37)
        for alphabet, pairs in large_lists() + [DOUBLING]:
            joins = Joins(alphabet, pairs)
            pieces = literal_texts(alphabet, pairs)
            row = cut(joins, "".join([pieces[dice.below(len(pieces))] for _ in range(400)]))[:200]
            for values in (drawn_machine(dice, alphabet, 12, 0, 12), drawn_machine(dice, alphabet, 12, 8, 6)):
                machine = Machine(*values)
                with Quick(5):
                    for begin in ((), row):
                        lets(joins, machine, begin)
                        may_end(joins, machine, begin)
                        shortest_end(joins, machine, begin)

    def test_an_end_that_is_far(self):
        joins = Joins("ab", ())
        steps = [[state + 1, None] for state in range(11)] + [[None, None]]
        self.assertEqual(shortest_end(joins, Machine("ab", 0, (11,), steps), ()), (0,) * 11)


if __name__ == "__main__":
    unittest.main()
