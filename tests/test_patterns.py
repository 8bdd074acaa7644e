"""[21], with what [20] says of least machines: patterns, least machines, both, either, but."""

import re
import unittest

from rankedjoins.errors import InvalidAlphabet, InvalidText
from rankedjoins.grammars import Machine
from rankedjoins.patterns import both, but, either, least, machine_of
from support import (ALPHABET_OF_30, ALPHABET_OF_31, Dice, Quick, drawn_machine, literal_takes, many_machines, taken_up_to,
                     texts_up_to)

SEVEN = "()|*+?."
LONGEST = {1: 12, 2: 7, 3: 5, 4: 4, 5: 3, 7: 3, 8: 3}


def values_of(machine):
    return machine.alphabet, machine.start, machine.ends, machine.steps


def is_pattern(alphabet, text):
    """Whether the text is a pattern, found by putting one sign for each item until nothing changes."""
    marked = "".join([sign if sign in "()|*+?" else "x" if sign == "." or sign in alphabet else "!" for sign in text])
    before = None
    while before != marked:
        before = marked
        marked = re.sub(r"\([x|]*\)", "x", re.sub(r"x[*+?]", "x", marked))
    return re.fullmatch(r"[x|]*", marked) is not None


def place_of_fault(alphabet, text):
    """The length of the longest beginning that some closing signs make a pattern of."""
    for length in reversed(range(len(text) + 1)):
        if any([is_pattern(alphabet, text[:length] + ")" * many) for many in range(length + 1)]):
            return length


def parsed(text):
    """The pattern as nested tuples."""
    def branches(at):
        found = []
        while True:
            items = []
            while at < len(text) and text[at] not in "|)":
                if text[at] == "(":
                    item, at = branches(at + 1)
                else:
                    item = ("sign", text[at])
                at += 1
                while at < len(text) and text[at] in "*+?":
                    item = (text[at], item)
                    at += 1
                items.append(item)
            found.append(("items", items))
            if at == len(text) or text[at] == ")":
                return ("branches", found), at
            at += 1
    return branches(0)[0]


def places_after(node, text, starts):
    """The places at which the node may end if it begins at one of these places."""
    kind, inside = node
    if kind == "sign":
        return {at + 1 for at in starts if at < len(text) and inside in (".", text[at])}
    if kind == "branches":
        return set().union(*[places_after(branch, text, starts) for branch in inside])
    if kind == "items":
        for item in inside:
            starts = places_after(item, text, starts)
        return starts
    if kind == "?":
        return starts | places_after(inside, text, starts)
    found = set(starts) if kind == "*" else places_after(inside, text, starts)
    while True:
        more = found | places_after(inside, text, found)
        if more == found:
            return found
        found = more


def literal_match(pattern, text):
    """Whether the pattern takes the text, place by place."""
    return len(text) in places_after(parsed(pattern), text, {0})


def drawn_pattern(dice, alphabet, depth=3):
    """A pattern of at most about 10 letters and dots."""
    letters = [letter for letter in alphabet if letter not in SEVEN] + ["."]
    branches = []
    for _ in range(1 + (dice.below(3) == 0) + (dice.below(5) == 0)):
        branch = ""
        for _ in range(dice.below(4)):
            if depth and dice.below(3) == 0:
                branch += "(" + drawn_pattern(dice, alphabet, depth - 1) + ")"
            else:
                branch += letters[dice.below(len(letters))]
            for _ in range([0, 0, 0, 1, 1, 2][dice.below(6)]):
                branch += "*+?"[dice.below(3)]
        branches.append(branch)
    return "|".join(branches)


def drawn_patterns(alphabet, many):
    dice = Dice(many + len(alphabet))
    patterns = []
    while len(patterns) < many:
        pattern = drawn_pattern(dice, alphabet)
        if len(pattern) <= 40 and len([sign for sign in pattern if sign not in "()|*+?"]) <= 10:
            patterns.append(pattern)
    return patterns


def part_somewhere(first, second):
    """Whether some text, of any length, is taken by just one of two machines over one alphabet."""
    waiting = [(first.start, second.start)]
    seen = set(waiting)
    while waiting:
        left, right = waiting.pop()
        if (left in first.ends) != (right in second.ends):
            return True
        for letter in range(len(first.alphabet)):
            after = (None if left is None else first.steps[left][letter], None if right is None else second.steps[right][letter])
            if after not in seen:
                seen.add(after)
                waiting.append(after)
    return False


class LeastMachines(unittest.TestCase):
    def assert_least(self, machine):
        """What [20] says of least machines, one thing after the other."""
        self.assertIs(machine.__class__, Machine)
        self.assertIs(machine.ends.__class__, tuple)
        self.assertEqual(set([entry.__class__ for entry in machine.steps] + [machine.steps.__class__]), set([tuple]))
        self.assertEqual(set([len(entry) for entry in machine.steps]), set([len(machine.alphabet)]))
        order = [machine.start]
        for state in order:
            order += [after for after in dict.fromkeys(machine.steps[state]) if after is not None and after not in order]
        self.assertEqual(order, list(range(len(machine.steps))))
        live = set(machine.ends)
        for _ in machine.steps:
            live |= {state for state in order if live & set(machine.steps[state])}
        self.assertLessEqual(set(order[1:]), live)
        self.assertLessEqual(set([after for entry in machine.steps for after in entry if after is not None]), live)
        self.assertEqual(list(machine.ends), sorted(machine.ends))
        for state in order:
            for other in range(state):
                first = Machine(machine.alphabet, state, machine.ends, machine.steps)
                self.assertTrue(part_somewhere(first, Machine(machine.alphabet, other, machine.ends, machine.steps)))


class Patterns(LeastMachines):
    def takes_just(self, alphabet, pattern, longest=None):
        machine = machine_of(alphabet, pattern)
        self.assert_least(machine)
        self.assertEqual(machine.alphabet, alphabet)
        for text in texts_up_to(alphabet, longest or LONGEST[len(alphabet)]):
            self.assertIs(machine.takes(text), literal_match(pattern, text), (pattern, text))
        return machine

    def test_the_empty_pattern_and_empty_branches(self):
        nothing = Machine("ab", 0, (0,), ((None, None),))
        for pattern in ("", "|", "||", "()", "()()", "(|)|", "()*", "(()+)?*", "(||)**"):
            self.assertEqual(self.takes_just("ab", pattern), nothing)
        for pattern in ("a|", "|a", "(|a)", "a?", "(a|)", "()a?", "a??"):
            self.assertEqual(self.takes_just("ab", pattern), Machine("ab", 0, (0, 1), ((1, None), (None, None))))

    def test_letters_dots_and_branches(self):
        self.assertEqual(self.takes_just("ab", "ab"), Machine("ab", 0, (2,), ((1, None), (None, 2), (None, None))))
        self.assertEqual(self.takes_just("ab", "a|b"), self.takes_just("ab", "."))
        self.assertEqual(self.takes_just("ab", "ab|ba|bb"), self.takes_just("ab", "(ab)|b."))
        self.assertEqual(self.takes_just("abc", "a(b|c)*c"), self.takes_just("abc", "a(b*c)+"))

    def test_repetition(self):
        self.assertEqual(self.takes_just("ab", "a*"), Machine("ab", 0, (0,), ((0, None),)))
        self.assertEqual(self.takes_just("ab", "a+"), Machine("ab", 0, (1,), ((1, None), (1, None))))
        self.assertEqual(self.takes_just("ab", "(ab)*"), Machine("ab", 0, (0,), ((1, None), (None, 0))))
        self.takes_just("a", "(aa|aaa)*a")
        self.takes_just("ab", "(a?b)+(ab?)*")

    def test_all_signs_of_repetition_behind_one_another(self):
        any_times = self.takes_just("ab", "a*")
        for pattern in ("a*+?", "a+*", "a?+", "a+?", "a**", "a?*", "a*+?*+?", "(a+)?", "((a?)+)*"):
            self.assertEqual(self.takes_just("ab", pattern), any_times)
        self.assertEqual(self.takes_just("ab", "a++"), self.takes_just("ab", "a+"))
        self.assertEqual(self.takes_just("ab", "a??"), self.takes_just("ab", "a?"))

    def test_a_sign_of_repetition_applies_to_one_item(self):
        self.assertEqual([text for text in texts_up_to("ab", 4) if machine_of("ab", "ab*").takes(text)],
                         ["a", "ab", "abb", "abbb"])
        self.assertEqual([text for text in texts_up_to("ab", 3) if machine_of("ab", "a|b+").takes(text)],
                         ["a", "b", "bb", "bbb"])

    def test_alphabets_with_the_seven_signs_and_a_blank(self):
        self.takes_just("".join(sorted(SEVEN)), "..?(.|)")
        self.takes_just(" .a", " +.|a")
        self.takes_just("(*a", "(a)*")
        self.takes_just("|~", "~|.")
        machine = machine_of("()", ".")
        self.assertEqual([text for text in texts_up_to("()", 2) if machine.takes(text)], ["(", ")"])
        machine = machine_of("*ab", "a*")
        self.assertEqual((machine.takes("aa"), machine.takes("a*")), (True, False))
        self.assertEqual(machine_of(" b", "( b)?"), Machine(" b", 0, (0, 2), ((1, None), (None, 2), (None, None))))

    def test_drawn_patterns(self):
        for alphabet, many in (("a", 40), ("ab", 80), (" .a", 30), ("abc", 40), ("*abc", 20)):
            for pattern in drawn_patterns(alphabet, many):
                self.takes_just(alphabet, pattern)

    def test_arguments_by_name(self):
        self.assertEqual(machine_of(pattern="a*", alphabet="a"), Machine("a", 0, (0,), ((0,),)))


class WrongPatterns(unittest.TestCase):
    def refused(self, alphabet, pattern, at):
        with self.assertRaises(InvalidText) as caught:
            machine_of(alphabet, pattern)
        self.assertIs(caught.exception.text, pattern)
        self.assertEqual(caught.exception.at, at, (alphabet, pattern))

    def test_where_a_pattern_goes_wrong(self):
        for pattern, at in (("*", 0), ("a|*", 2), ("(*a)", 1), ("ab)", 2), (")", 0), ("(a", 2), ("(", 1), ("a((b)", 5),
                            ("axb", 1), ("a(x", 2), ("A", 0), ("a|?b", 2), ("()+|+", 4), ("(a|b*", 5), ("a(b))a(", 4),
                            ("a b", 1), ("((((", 4), ("a)*x", 1)):
            self.refused("ab", pattern, at)

    def test_the_seven_signs_are_no_letters_in_a_pattern_even_if_the_alphabet_has_them(self):
        for sign in "*+?)":
            self.refused("".join(sorted(SEVEN)), sign, 0)
        self.refused("".join(sorted(SEVEN)), "(", 1)
        self.refused("()a", "(a", 2)

    def test_all_short_texts(self):
        wrong = 0
        for alphabet, signs, longest in (("a", "a(|)*", 5), (".?", "().?|!", 4), (" *", " *()x", 4)):
            for text in texts_up_to(signs, longest):
                if is_pattern(alphabet, text):
                    machine_of(alphabet, text)
                else:
                    self.refused(alphabet, text, place_of_fault(alphabet, text))
                    wrong += 1
        self.assertGreater(wrong, 1000)

    def test_texts_of_40_signs(self):
        self.refused("a", "(" * 40, 40)
        self.refused("a", "()" * 19 + "|*", 39)
        self.refused("a", "(" * 20 + ")" * 21, 40)
        self.refused("ab", "a" + "*" * 38 + "c", 39)

    def test_wrong_alphabets_ahead_of_wrong_patterns(self):
        for alphabet in ("", "ba", "aa", "a\n", ALPHABET_OF_31):
            for pattern in ("", "a", "*", "(x"):
                with self.assertRaises(InvalidAlphabet) as caught:
                    machine_of(alphabet, pattern)
                self.assertIs(caught.exception.alphabet, alphabet)


class Least(LeastMachines):
    def test_machines_of_many_kinds(self):
        for alphabet in ("a", "ab", "abc"):
            for values in many_machines(alphabet):
                machine = Machine(*values)
                found = least(machine)
                self.assert_least(found)
                self.assertFalse(part_somewhere(machine, found))
                self.assertEqual(taken_up_to(values_of(found), LONGEST[len(alphabet)]), taken_up_to(values, LONGEST[len(alphabet)]))
                self.assertEqual(least(found), found)
                self.assertEqual(values_of(machine), values_of(Machine(*values)))

    def test_machines_that_take_nothing(self):
        nothing = Machine("ab", 0, (), ((None, None),))
        for values in (("ab", 0, (), ((0, 0),)), ("ab", 1, (0,), ((1, 1), (1, None))), ("ab", 0, (), ((1, 0), (0, 1))),
                       ("ab", 2, (0, 1), ((0, 1), (2, 1), (None, 2)))):
            self.assertEqual(least(Machine(*values)), nothing)

    def test_states_are_numbered_as_they_are_come_to(self):
        machine = Machine("ab", 3, (0, 2), ((None, 0), (0, 2), (1, None), (2, 1)))
        self.assertEqual(least(machine), Machine("ab", 0, (1, 3), ((1, 2), (2, None), (3, 1), (None, 3))))

    def test_states_that_cannot_be_come_to_or_from_which_no_end_can_be_come_to(self):
        machine = Machine("ab", 1, (1,), ((1, 0), (1, 2), (2, 2)))
        self.assertEqual(least(machine), Machine("ab", 0, (0,), ((0, None),)))

    def test_states_that_take_the_same_texts(self):
        machine = Machine("ab", 0, (0, 1, 2), ((1, 2), (2, 0), (0, 1)))
        self.assertEqual(least(machine), Machine("ab", 0, (0,), ((0, 0),)))

    def test_arguments_by_name(self):
        machine = Machine("a", 0, (0,), ((0,),))
        self.assertEqual(least(machine=machine), machine)
        for call in (both, either, but):
            self.assertIs(call(machine=machine, other=machine).__class__, Machine)


class Combined(LeastMachines):
    def test_machines_of_many_kinds(self):
        for alphabet in ("a", "ab", " |~"):
            machines = many_machines(alphabet)
            texts = texts_up_to(alphabet, LONGEST[len(alphabet)] - 1)
            taken = [[literal_takes(values, text) for text in texts] for values in machines]
            for at, values in enumerate(machines):
                for other_at in (at, (at + 3) % len(machines), (at * 5 + 1) % len(machines)):
                    machine, other = Machine(*values), Machine(*machines[other_at])
                    pairs = list(zip(taken[at], taken[other_at]))
                    found = (both(machine, other), either(machine, other), but(machine, other))
                    expected = ([x and y for x, y in pairs], [x or y for x, y in pairs], [x and not y for x, y in pairs])
                    for made, wanted in zip(found, expected):
                        self.assertEqual([made.takes(text) for text in texts], wanted)
                        self.assertEqual(made, least(made))
                        if len(made.steps) < 30:
                            self.assert_least(made)

    def test_some_patterns(self):
        def of(pattern):
            return machine_of("ab", pattern)
        self.assertEqual(both(of("a*b"), of("ab*")), of("ab"))
        self.assertEqual(both(of("a"), of("b")), Machine("ab", 0, (), ((None, None),)))
        self.assertEqual(either(of("a"), of("b+")), of("a|b+"))
        self.assertEqual(either(of(""), of("a.*")), of("(a.*)?"))
        self.assertEqual(but(of(".*"), of("a.*")), of("(b.*)?"))
        self.assertEqual(but(of("a+"), of("a")), of("aaa*"))
        self.assertEqual(but(of("a+"), of(".*")), Machine("ab", 0, (), ((None, None),)))

    def test_other_may_go_on_where_machine_has_no_step_and_the_other_way_round(self):
        short, long = machine_of("ab", "a"), machine_of("ab", "aab*")
        self.assertEqual(either(short, long), machine_of("ab", "a|aab*"))
        self.assertEqual(either(long, short), machine_of("ab", "a|aab*"))
        self.assertEqual(but(long, short), long)
        self.assertEqual(but(short, long), short)


class Promises(unittest.TestCase):
    def test_the_same_texts_just_if_the_least_machines_are_equal(self):
        equal = 0
        for alphabet in ("a", "ab", "abc"):
            machines = [Machine(*values) for values in many_machines(alphabet)]
            machines += [machine_of(alphabet, pattern) for pattern in drawn_patterns(alphabet, 25)]
            dice = Dice(6)
            machines += [Machine(*drawn_machine(dice, alphabet, 2 + dice.below(2), 2, 2)) for _ in range(30)]
            leasts = [least(machine) for machine in machines]
            for machine, found in zip(machines, leasts):
                for other, other_found in zip(machines, leasts):
                    self.assertIs(found == other_found, not part_somewhere(machine, other))
                    equal += found == other_found
        self.assertGreater(equal, 400)


class Sizes(unittest.TestCase):
    def test_patterns_of_40_signs(self):
        for pattern, states in ((".*A........" + "()" * 14, 512), ("((" * 5 + "A.*" + ")*)?" * 5 + "|B", None),
                                ("(" * 19 + "." + ")" * 19, 2), ("A" + "*+?" * 13, 1), ("|" * 39 + "A", 2), ("(.*A......)+|B", None)):
            with Quick(10):
                machine = machine_of(ALPHABET_OF_30, pattern)
            if states is not None:
                self.assertEqual(len(machine.steps), states)
            for text in ("", "A", "B", "AA", "BAAAAAAAA", "ABBBBBBBB", "BBBBBBBBB", "ABABABABABAB", "A" * 200):
                self.assertIs(machine.takes(text), literal_match(pattern, text))

    def test_a_machine_of_60_states(self):
        line = Machine("ab", 59, (0,), [[state - 1 if state else 0, state] for state in range(60)])
        with Quick(5):
            self.assertEqual(len(least(line).steps), 60)
        drawn = Machine(*drawn_machine(Dice(4), ALPHABET_OF_30, 60, 9, 20))
        with Quick(5):
            self.assertFalse(part_somewhere(least(drawn), drawn))

    def test_two_machines_of_12_states(self):
        dice = Dice(12)
        for alphabet in ("ab", ALPHABET_OF_30):
            machine, other = [Machine(*drawn_machine(dice, alphabet, 12, 5, 3)) for _ in range(2)]
            with Quick(10):
                for call in (both, either, but):
                    self.assertGreater(len(call(machine, other).steps), 0)


if __name__ == "__main__":
    unittest.main()
