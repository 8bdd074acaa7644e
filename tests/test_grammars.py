"""[20]: machines."""

import unittest

from rankedjoins.errors import UnknownSign
from rankedjoins.grammars import Machine
from support import Dice, Quick, drawn_machine, literal_after, literal_takes, many_machines, texts_up_to

EVEN = ("ab", 0, (0,), ((1, 0), (0, None)))


class Machines(unittest.TestCase):
    def test_attributes_are_tuples_and_ends_are_ascending(self):
        machine = Machine("ab", 1, [2, 0], [[0, 1], (None, 2), [None, None]])
        self.assertEqual((machine.alphabet, machine.start, machine.ends), ("ab", 1, (0, 2)))
        self.assertEqual(machine.steps, ((0, 1), (None, 2), (None, None)))
        self.assertEqual(Machine("a", 0, (), ((None,),)).ends, ())

    def test_lists_that_are_handed_in_and_changed_later(self):
        ends, steps = [1, 0], [[1, 0], [None, 1]]
        machine = Machine("ab", 0, ends, steps)
        self.assertEqual((ends, steps), ([1, 0], [[1, 0], [None, 1]]))
        ends.append(5)
        steps[0][1] = 1
        steps.pop()
        self.assertEqual((machine.ends, machine.steps), ((0, 1), ((1, 0), (None, 1))))

    def test_after_and_takes(self):
        machine = Machine(*EVEN)
        for text, state in (("", 0), ("a", 1), ("aa", 0), ("bab", None), ("baab", 0), ("aba", None), ("abbbb", None)):
            self.assertEqual(machine.after(0, text), state)
            self.assertIs(machine.takes(text), state == 0)
        self.assertEqual((machine.after(1, "a"), machine.after(1, "b"), machine.after(1, "")), (0, None, 1))

    def test_a_machine_without_ends_takes_nothing(self):
        machine = Machine("a", 0, (), ((0,),))
        for text in ("", "a", "aa"):
            self.assertIs(machine.takes(text), False)

    def test_letters_are_read_in_the_order_of_the_alphabet(self):
        machine = Machine(" (.|", 0, (3,), ((1, 2, 3, 0), (1,) * 4, (2,) * 4, (3, None, 3, 3)))
        self.assertEqual([machine.after(0, sign) for sign in " (.|"], [1, 2, 3, 0])
        self.assertIs(machine.takes("||. ."), True)
        self.assertIs(machine.takes("||.("), False)

    def test_many_machines(self):
        for alphabet, longest in (("a", 9), ("ab", 6), (" |~", 4)):
            for values in many_machines(alphabet):
                machine = Machine(*values)
                for text in texts_up_to(alphabet, longest):
                    self.assertIs(machine.takes(text), literal_takes(values, text))
                    for state in range(len(values[3])):
                        self.assertEqual(machine.after(state, text), literal_after(alphabet, values[3], state, text))

    def test_arguments_by_name(self):
        machine = Machine(alphabet="ab", start=0, ends=(0,), steps=((1, 0), (0, None)))
        self.assertEqual(machine.after(state=1, text="a"), 0)
        self.assertIs(machine.takes(text="aa"), True)


class UnknownSigns(unittest.TestCase):
    def test_the_first_sign_that_is_no_letter_wherever_it_stands(self):
        machine = Machine(*EVEN)
        for text, sign, at in (("x", "x", 0), ("abx", "x", 2), ("aAyx", "A", 1), ("abbba ~", " ", 5), ("aabx", "x", 3)):
            for call in (machine.takes, lambda text: machine.after(0, text), lambda text: machine.after(1, text)):
                with self.assertRaises(UnknownSign) as caught:
                    call(text)
                self.assertEqual((caught.exception.sign, caught.exception.at), (sign, at))

    def test_in_a_machine_without_steps(self):
        with self.assertRaises(UnknownSign) as caught:
            Machine("a", 0, (0,), ((None,),)).takes("aaab")
        self.assertEqual((caught.exception.sign, caught.exception.at), ("b", 3))


class Equality(unittest.TestCase):
    def test_all_four_count(self):
        machine = Machine(*EVEN)
        self.assertTrue(machine == Machine("ab", 0, [0], [[1, 0], [0, None]]))
        self.assertFalse(machine != Machine("ab", 0, [0], [[1, 0], [0, None]]))
        others = (("ac", 0, (0,), EVEN[3]), ("ab", 1, (0,), EVEN[3]), ("ab", 0, (1,), EVEN[3]), ("ab", 0, (), EVEN[3]),
                  ("ab", 0, (0, 1), EVEN[3]), ("ab", 0, (0,), ((1, 0), (0, 0))), ("ab", 0, (0,), EVEN[3] + ((0, 0),)))
        for other in others:
            self.assertIs(machine == Machine(*other), False)
            self.assertIs(machine != Machine(*other), True)

    def test_the_order_of_the_ends_that_are_passed_does_not_count(self):
        steps = ((1, 2), (0, 0), (2, 2))
        self.assertTrue(Machine("ab", 0, (0, 2), steps) == Machine("ab", 0, [2, 0], steps))

    def test_machines_that_take_the_same_texts_may_differ(self):
        self.assertFalse(Machine("a", 0, (0,), ((0,),)) == Machine("a", 0, (0, 1), ((1,), (0,))))

    def test_values_of_another_kind(self):
        machine = Machine(*EVEN)
        for other in (None, 0, "", EVEN, list(EVEN), {}, machine.steps, object()):
            self.assertIs(machine == other, False)
            self.assertIs(machine != other, True)
            self.assertIs(other == machine, False)


class Sizes(unittest.TestCase):
    def test_large_machines_and_texts_of_200_letters(self):
        dice = Dice(2)
        values = drawn_machine(dice, "abcdefgh", 1000, 0, 2)
        machine, same = Machine(*values), Machine(*values)
        with Quick(2):
            for _ in range(50):
                text = dice.text("abcdefgh", 200)
                self.assertEqual(machine.after(7, text), literal_after("abcdefgh", values[3], 7, text))
            self.assertTrue(machine == same)


if __name__ == "__main__":
    unittest.main()
