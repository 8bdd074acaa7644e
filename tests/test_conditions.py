"""[29]: chances of pieces if the text is taken by a machine."""

import unittest
from fractions import Fraction

from rankedjoins.conditions import chance_of_machine, next_pieces
from rankedjoins.errors import NoChance, NoPiece
from rankedjoins.grammars import Machine
from rankedjoins.joinlists import Joins
from rankedjoins.models import Model
from rankedjoins.patterns import machine_of
from rankedjoins.plain import text_of_row
from rankedjoins.shares import Share
from support import (DOUBLING, EXAMPLE, HUGE, SIXTY, Dice, Quick, drawn_machine, drawn_table, ended_rows, fraction,
                     large_lists, literal_after, literal_chance, literal_takes, literal_texts, small_lists, told_error,
                     weights_of)

# Of the example: a, b, c, ab, abc, aa are the pieces 0 to 5.
TABLE = ((None, ((3, 3), (0, 1))), (3, ((None, 1), (0, 2), (3, 3))), (0, ((None, 5), (3, 5))))


def told(pairs):
    """The pairs with fractions instead of shares."""
    return [(first, fraction(share)) for first, share in pairs]


def small_machines(alphabet):
    """(alphabet, start, ends, steps) of machines of at most 3 states."""
    none = [None] * len(alphabet)
    dice = Dice(5 + len(alphabet))
    machines = [(alphabet, 0, (), (tuple(none),)), (alphabet, 0, (0,), (tuple(none),)), (alphabet, 0, (), ((0,) * len(alphabet),)),
                (alphabet, 0, [0], [[0] * len(alphabet)]), (alphabet, 1, (2,), ((0,) * len(alphabet),) * 3)]
    for states, gaps, ends in ((2, 0, 2), (2, 3, 1), (3, 0, 2), (3, 0, 3), (3, 5, 2), (3, 3, 3)):
        machines.append(drawn_machine(dice, alphabet, states, gaps, ends))
    return machines


def steps_of(table, machine, pieces, stand):
    """(weight, what is come to) for the choices at (last, state); it is None for a text that is taken."""
    weights = weights_of(table)[stand[0]]
    found = []
    for following, weight in weights.items():
        if following is None:
            if stand[1] in list(machine[2]):
                found.append((weight, None))
        else:
            state = literal_after(machine[0], machine[3], stand[1], pieces[following])
            if state is not None:
                found.append((weight, (following, state)))
    return found


def literal_outlook(table, machine, pieces):
    """For each (last, state) the chance to come to an end and to be taken, by fractions, one unknown after the other."""
    sums = {last: sum(choices.values()) for last, choices in weights_of(table).items()}
    stands = [(last, state) for last in sums for state in range(len(machine[3]))]
    steps = {stand: steps_of(table, machine, pieces, stand) for stand in stands}
    live = [stand for stand in stands if leads_to_end(steps, stand)]
    # What is told of each is a sum of multiples of the others and, at None, of the end.
    sides = {stand: {} for stand in live}
    for stand in live:
        for weight, after in steps[stand]:
            if after is None or after in sides:
                sides[stand][after] = sides[stand].get(after, 0) + Fraction(weight, sums[stand[0]])
    for chosen in live:
        own = sides[chosen].pop(chosen, 0)
        sides[chosen] = {after: part / (1 - own) for after, part in sides[chosen].items()}
        for stand in live:
            part = sides[stand].pop(chosen, 0) if stand != chosen else 0
            for after, more in sides[chosen].items():
                sides[stand][after] = sides[stand].get(after, 0) + part * more
    return {stand: sides[stand].get(None, 0) if stand in sides else 0 for stand in stands}


def leads_to_end(steps, stand):
    known = {stand: True}
    waiting = [stand]
    while waiting:
        for _, after in steps[waiting.pop()]:
            if after is None:
                return True
            if after not in known:
                known[after] = True
                waiting.append(after)
    return False


class Examples(unittest.TestCase):
    def setUp(self):
        self.model = Model(Joins(*EXAMPLE), TABLE)

    def test_what_takes_all_and_what_takes_none(self):
        self.assertEqual(chance_of_machine(self.model, machine_of("abc", ".*")), Share(1, 1))
        for machine in (Machine("abc", 0, (), ((0, 0, 0),)), machine_of("abc", "c+"), Machine("abc", 0, [0], [[None] * 3])):
            self.assertEqual(chance_of_machine(self.model, machine), Share(0, 1))

    def test_finite_machines(self):
        for pattern, texts in (("ab", ("ab",)), ("(ab)?a?", ("", "a", "ab", "aba")), ("abab|ab", ("ab", "abab"))):
            expected = sum([fraction(self.model.chance_of_text(text)) for text in texts])
            self.assertEqual(fraction(chance_of_machine(self.model, machine_of("abc", pattern))), expected)

    def test_rows_that_come_round_again_and_again(self):
        # 3/4 for the first ab, then 1/2 for each more, then 1/6 for the end.
        chance = chance_of_machine(self.model, machine_of("abc", "(ab)*"))
        self.assertEqual(chance.written(), "1/4")
        self.assertEqual(chance_of_machine(self.model, machine_of("abc", "(abab)*")).written(), "1/12")

    def test_next_pieces(self):
        machine = machine_of("abc", "(ab)*")
        self.assertEqual(told(next_pieces(self.model, machine, ())), [(3, Fraction(1))])
        self.assertEqual(told(next_pieces(self.model, machine, (3,))), [(None, Fraction(1, 2)), (3, Fraction(1, 2))])
        machine = machine_of("abc", ".*")
        self.assertEqual(told(next_pieces(self.model, machine, [0])), [(None, Fraction(1, 2)), (3, Fraction(1, 2))])
        self.assertEqual(told(next_pieces(self.model, machine, ())), [(0, Fraction(1, 4)), (3, Fraction(3, 4))])
        machine = machine_of("abc", "(ab)+a")
        self.assertEqual(told(next_pieces(self.model, machine, (3,))), [(0, Fraction(1, 2)), (3, Fraction(1, 2))])
        self.assertEqual(told(next_pieces(self.model, machine, [3, 0])), [(None, Fraction(1))])

    def test_kinds_of_values_and_arguments_by_name(self):
        machine = machine_of("abc", "(ab)*")
        self.assertIs(chance_of_machine(model=self.model, machine=machine).__class__, Share)
        self.assertIs(chance_of_machine(self.model, machine_of("abc", "c")).__class__, Share)
        row = [3]
        found = next_pieces(model=self.model, machine=machine, row=row)
        self.assertEqual(row, [3])
        self.assertEqual([found.__class__] + [entry.__class__ for entry in found], [tuple] * 3)
        self.assertEqual([share.__class__ for _, share in found], [Share] * 2)
        row.append(3)
        self.assertEqual(found, next_pieces(self.model, machine, (3,)))

    def test_what_is_done_later_to_what_was_passed_has_no_effect(self):
        table, ends, steps = [[None, [[0, 1], [None, 1]]], [0, [[None, 1]]]], [1], [[1], [None]]
        model, machine = Model(Joins("a", ()), table), Machine("a", 0, ends, steps)
        table[0][1][0][1] = 7
        table[1][1].append([0, 1])
        ends.append(0)
        steps[1][0] = 0
        self.assertEqual(chance_of_machine(model, machine), Share(1, 2))
        self.assertEqual(next_pieces(model, machine, ()), ((0, Share(1, 1)),))
        self.assertEqual(next_pieces(model, machine, (0,)), ((None, Share(1, 1)),))

    def test_a_model_that_may_never_end_beside_one_end(self):
        # Behind a first 1 the model goes round for ever, so only what begins with 0 comes to an end.
        model = Model(Joins("ab", ()), ((None, ((0, 1), (1, 2))), (0, ((None, 1), (0, 1))), (1, ((1, 1),))))
        machine = machine_of("ab", ".*")
        self.assertEqual(chance_of_machine(model, machine), Share(1, 3))
        self.assertEqual(told(next_pieces(model, machine, ())), [(0, Fraction(1))])
        told_error(self, NoChance, lambda: next_pieces(model, machine, (1, 1)), text="bb")

    def test_none_alone(self):
        model = Model(Joins(*EXAMPLE), ((None, ((None, 2),)),))
        self.assertEqual(chance_of_machine(model, machine_of("abc", "a*")), Share(1, 1))
        self.assertEqual(chance_of_machine(model, machine_of("abc", "a+")), Share(0, 1))
        self.assertEqual(next_pieces(model, machine_of("abc", "a*"), ()), ((None, Share(1, 1)),))
        told_error(self, NoChance, lambda: next_pieces(model, machine_of("abc", "a+"), ()), text="")


class WrongInputs(unittest.TestCase):
    def setUp(self):
        self.model = Model(Joins(*EXAMPLE), TABLE)

    def test_no_piece_ahead_of_no_chance(self):
        for machine in (machine_of("abc", ".*"), Machine("abc", 0, (), ((None,) * 3,))):
            for row, piece in (((6,), 6), ([3, -1, 9], -1), ((1, 1, HUGE, -HUGE), HUGE), ([3, 3, -HUGE], -HUGE), ((4, 7), 7)):
                told_error(self, NoPiece, lambda: next_pieces(self.model, machine, row), piece=piece)

    def test_no_chance_with_the_text_of_the_row(self):
        for pattern, row, text in ((".*", (1,), "b"), (".*", [0, 0], "aa"), (".*", (3, 2), "abc"), (".*", (0, 1), "ab"),
                                   (".*", (3, 4), "ababc"), ("(ab)*", (0,), "a"), ("(ab)*", [3, 0], "aba"), ("b", (3,), "ab"),
                                   ("b", (), ""), ("a(ab)?", (0, 3, 3), "aabab"), ("(|b)", (), "")):
            told_error(self, NoChance, lambda: next_pieces(self.model, machine_of("abc", pattern), row), text=text)

    def test_no_chance_without_ends(self):
        machine = Machine("abc", 0, (), ((0, 0, 0),))
        for row, text in (((), ""), ((3,), "ab"), ((0, 3), "aab")):
            told_error(self, NoChance, lambda: next_pieces(self.model, machine, row), text=text)
        endless = Model(Joins("a", ()), ((None, ((0, 1),)), (0, ((0, 1),))))
        self.assertEqual(chance_of_machine(endless, machine_of("a", "a*")), Share(0, 1))
        told_error(self, NoChance, lambda: next_pieces(endless, machine_of("a", "a*"), (0, 0)), text="aa")


class Promises(unittest.TestCase):
    def cases(self, forward=False):
        """(alphabet, pairs, table, machine) of small models and machines."""
        dice = Dice(41)
        for alphabet, pairs in small_lists():
            for many in (1, 2, 4):
                for machine in small_machines(alphabet)[dice.below(2)::2]:
                    yield alphabet, pairs, drawn_table(dice, alphabet, pairs, many, 3, forward), machine

    def test_rows_that_all_come_to_an_end(self):
        between = 0
        for alphabet, pairs, table, machine in self.cases(True):
            pieces = literal_texts(alphabet, pairs)
            rows = [row for row in ended_rows(table) if literal_takes(machine, "".join([pieces[piece] for piece in row]))]
            chances = {row: literal_chance(table, row + (None,)) for row in rows}
            model, made = Model(Joins(alphabet, pairs), table), Machine(*machine)
            whole = sum(chances.values())
            self.assertEqual(fraction(chance_of_machine(model, made)), whole)
            between += 0 < whole < 1
            for begun in sorted(set([row[:many] for row in ended_rows(table) for many in range(len(row) + 1)]))[:25]:
                behind = {row: chance for row, chance in chances.items() if row[:len(begun)] == begun}
                if not behind:
                    text = "".join([pieces[piece] for piece in begun])
                    told_error(self, NoChance, lambda: next_pieces(model, made, begun), text=text)
                    continue
                shares = {}
                for row, chance in behind.items():
                    following = (row + (None,))[len(begun)]
                    shares[following] = shares.get(following, 0) + chance / sum(behind.values())
                expected = sorted(shares.items(), key=lambda entry: (entry[0] is not None, entry[0] or 0))
                self.assertEqual(told(next_pieces(model, made, begun)), expected)
        self.assertGreater(between, 30)

    def test_models_that_go_round(self):
        between = 0
        for alphabet, pairs, table, machine in self.cases():
            pieces = literal_texts(alphabet, pairs)
            outlook = literal_outlook(table, machine, pieces)
            model, made = Model(Joins(alphabet, pairs), table), Machine(*machine)
            whole = outlook[(None, machine[1])]
            self.assertEqual(fraction(chance_of_machine(model, made)), whole)
            between += 0 < whole < 1
            weights = weights_of(table)
            rows = [()]
            for row in rows:
                text = "".join([pieces[piece] for piece in row])
                last, state = row[-1] if row else None, literal_after(alphabet, machine[3], machine[1], text)
                if outlook.get((last, state), 0) == 0:
                    told_error(self, NoChance, lambda: next_pieces(model, made, row), text=text)
                    continue
                found = told(next_pieces(model, made, row))
                self.assertEqual(sum([share for _, share in found]), 1)
                scale = outlook[(last, state)] * sum(weights[last].values())
                expected = [(None, weights[last].get(None, 0) / scale if state in list(machine[2]) else 0)]
                for piece in range(len(pieces)):
                    after = literal_after(alphabet, machine[3], state, pieces[piece])
                    expected.append((piece, weights[last].get(piece, 0) * outlook.get((piece, after), 0) / scale))
                self.assertEqual(found, [entry for entry in expected if entry[1] > 0])
                if len(row) < 3:
                    rows.extend([row + (piece,) for piece in weights[last] if piece is not None])
        self.assertGreater(between, 60)

    def test_the_product_along_a_row(self):
        longest = 0
        for forward in (False, True):
            for alphabet, pairs, table, machine in self.cases(forward):
                joins = Joins(alphabet, pairs)
                model, made = Model(joins, table), Machine(*machine)
                whole = fraction(chance_of_machine(model, made))
                for row in ended_rows(table, 4)[:30]:
                    if not made.takes(text_of_row(joins, row)):
                        continue
                    product = Fraction(1)
                    for at in range(len(row)):
                        product *= dict(told(next_pieces(model, made, row[:at])))[row[at]]
                    product *= dict(told(next_pieces(model, made, row)))[None]
                    self.assertEqual(product, fraction(model.chance_of_row(row)) / whole)
                    longest = max(longest, len(row))
        self.assertEqual(longest, 4)

    def test_sums_of_long_rows_come_close(self):
        model = Model(Joins(*EXAMPLE), TABLE)
        machine = ("abc", 0, (0,), ((1, 0, 0), (1, 2, 1), (2, 0, 2)))
        pieces = literal_texts(*EXAMPLE)
        taken, rest = Fraction(0), Fraction(1)
        for row in ended_rows(TABLE, 14):
            chance = literal_chance(TABLE, row + (None,))
            rest -= chance
            if literal_takes(machine, "".join([pieces[piece] for piece in row])):
                taken += chance
        self.assertTrue(taken <= fraction(chance_of_machine(model, Machine(*machine))) <= taken + rest)
        self.assertLess(rest, Fraction(1, 10))


class Sizes(unittest.TestCase):
    def test_5_entries_3_states_and_weights_of_many_digits(self):
        dice = Dice(23)
        for alphabet, pairs in large_lists() + [DOUBLING, SIXTY]:
            joins = Joins(alphabet, pairs)
            for _ in range(6):
                model = Model(joins, self.drawn(dice, joins))
                machine = Machine(*drawn_machine(dice, alphabet, 3, 0, 2))
                with Quick(5):
                    chance = chance_of_machine(model, machine)
                    if chance.over > 0:
                        found = told(next_pieces(model, machine, ()))
                        self.assertEqual(sum([share for _, share in found]), 1)

    def drawn(self, dice, joins):
        """A table with None and 4 letters, each of which may come behind each other if the list lets it."""
        letters = list(range(len(joins.alphabet)))[:4]
        rows = []
        for last in [None] + letters:
            fitting = [piece for piece in letters if last is None or joins.rank_of(last, piece) is None]
            rows.append([last, [[None, 3 ** 600]] + [[piece, 5 ** 500 + dice.below(10 ** 9)] for piece in fitting]])
        return rows

    def test_a_row_of_200_pieces(self):
        joins = Joins("ab", ())
        big = 10 ** 100
        model = Model(joins, ((None, ((0, 1), (1, 1))), (0, ((0, big), (1, big + 1))), (1, ((0, 1), (1, 2), (None, 1)))))
        with Quick(5):
            found = told(next_pieces(model, machine_of("ab", "(.a|.b)*"), (0, 1) * 100))
        self.assertEqual([following for following, _ in found], [None, 0, 1])


if __name__ == "__main__":
    unittest.main()
