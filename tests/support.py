"""Lists of joins, texts and wrong values for the tests, and a second, word for word reading of the document."""

import itertools
import time
from fractions import Fraction

from rankedjoins.errors import JoinError
from rankedjoins.plain import cut

HUGE = 10 ** 399

# What an argument called piece, left, right, rank, number or many may be without being one.
WRONG_NUMBERS = (
    None, True, False, -1, -2, -HUGE, HUGE, "", "0", "a", "1" * 400, (), (0,), (0, 1), [], [0], [[0]], ([0],), ((0,), "a"),
    [None, [True, (1, [2])]], [[[[[[[[[[0]]]]]]]]]], tuple(range(200)),
)


class Dice:
    """Numbers that look drawn and are the same on each run."""

    def __init__(self, seed):
        self.state = seed * 2654435761 + 12345

    def below(self, end):
        self.state = (self.state * 6364136223846793005 + 1442695040888963407) % 2 ** 64
        return (self.state >> 33) % end

    def text(self, alphabet, many):
        return "".join([alphabet[self.below(len(alphabet))] for _ in range(many)])


def literal_cut(alphabet, pairs, text):
    """[8] step by step: one join of the lowest rank at the leftmost place at a time."""
    row = [alphabet.index(sign) for sign in text]
    while True:
        places = [(pairs.index(pair), at) for at, pair in enumerate(zip(row, row[1:])) if pair in pairs]
        if not places:
            return tuple(row)
        rank, at = min(places)
        row[at:at + 2] = [len(alphabet) + rank]


def literal_pass(row, pair, piece):
    """[9]: once from left to right, a place at a time."""
    out = []
    at = 0
    while at < len(row):
        if tuple(row[at:at + 2]) == pair:
            out.append(piece)
            at += 2
        else:
            out.append(row[at])
            at += 1
    return tuple(out)


def literal_texts(alphabet, pairs):
    texts = list(alphabet)
    for left, right in pairs:
        texts.append(texts[left] + texts[right])
    return texts


def first_joining(alphabet, pairs, texts_of_row):
    """(at, rank) of the first join, in the order of [9], that puts letters of two of these texts together, or None."""
    borders = []
    at = 0
    for text in texts_of_row[:-1]:
        at += len(text)
        borders.append(at)
    stretches = [(at, at + 1, alphabet.index(sign)) for at, sign in enumerate("".join(texts_of_row))]
    for rank, (left, right) in enumerate(pairs):
        out = []
        for stretch in stretches:
            if out and (out[-1][2], stretch[2]) == (left, right):
                begin, end = out.pop()[0], stretch[1]
                inside = [number for number, border in enumerate(borders) if begin < border < end]
                if inside:
                    return inside[0], rank
                stretch = (begin, end, len(alphabet) + rank)
            out.append(stretch)
        stretches = out
    return None


def drawn_pairs(dice, alphabet, many, tries=600, blank_inside=True):
    """A proper list, drawn pair by pair and checked by literal_cut alone, perhaps without a blank behind a first sign."""
    pairs = []
    texts = list(alphabet)
    for _ in range(tries):
        if len(pairs) == many:
            break
        low = max(0, len(texts) - 5) if dice.below(3) == 0 else 0
        pair = tuple([low + dice.below(len(texts) - low) for _ in range(2)])
        text = texts[pair[0]] + texts[pair[1]]
        if not blank_inside and " " in text[1:]:
            continue
        if len(text) <= 40 and literal_cut(alphabet, pairs, text) == pair:
            pairs.append(pair)
            texts.append(text)
    return tuple(pairs)


ALPHABET_OF_30 = "".join([chr(code) for code in range(ord("A"), ord("A") + 30)])
ALPHABET_OF_31 = "".join([chr(code) for code in range(ord("A"), ord("A") + 31)])
EXAMPLE = ("abc", ((0, 1), (3, 2), (0, 0)))
# a, aa, ... up to 32 letters, then 40 letters.
DOUBLING = ("a", ((0, 0), (1, 1), (2, 2), (3, 3), (4, 4), (5, 3)))
SIXTY = ("abcdefgh", tuple([(left, right) for left in range(8) for right in range(8)][:60]))
CHAIN_RIGHT = (ALPHABET_OF_30, tuple([(0, 1)] + [(29 + step, step + 1) for step in range(1, 29)]))
CHAIN_LEFT = (ALPHABET_OF_30, tuple([(28, 29)] + [(28 - step, 29 + step) for step in range(1, 29)]))


def many_lists():
    """(alphabet, pairs) of many proper lists, small and large ones."""
    lists = [EXAMPLE, DOUBLING, SIXTY, CHAIN_RIGHT, CHAIN_LEFT, ("a", ()), (" |~", ()), (ALPHABET_OF_30, ())]
    dice = Dice(7)
    for alphabet in ("a", "ab", " |", "abc", "0:x~", "abcdef"):
        for many in (1, 2, 4, 7, 12, 20, 60):
            lists.append((alphabet, drawn_pairs(dice, alphabet, many)))
    return lists


def texts_for(alphabet, pairs, many=8, longest=30):
    """Texts over the alphabet: the empty one, drawn ones, texts of pieces one after the other, one sign often."""
    dice = Dice(len(pairs) + 31 * len(alphabet))
    texts = ["", alphabet[0], alphabet[-1] * 11]
    for _ in range(many):
        texts.append(dice.text(alphabet, dice.below(longest + 1)))
        pieces = literal_texts(alphabet, pairs)
        texts.append("".join([pieces[dice.below(len(pieces))] for _ in range(1 + dice.below(4))]))
    return texts


def rows_for(alphabet, pairs, many=12):
    """Rows of pieces, cuts and others: without a piece, with one, and longer."""
    dice = Dice(3 * len(pairs) + len(alphabet))
    pieces = len(alphabet) + len(pairs)
    rows = [(), (0,), (pieces - 1,)]
    for _ in range(many):
        rows.append(tuple([dice.below(pieces) for _ in range(2 + dice.below(5))]))
    return rows


def small_lists():
    """(alphabet, pairs) of lists for which all texts or rows up to some length can be gone through."""
    lists = [EXAMPLE, ("a", ()), ("ab", ()), ("a", DOUBLING[1][:2]), ("ab", ((1, 1), (0, 1), (2, 2)))]
    dice = Dice(19)
    for alphabet in ("a", "ab", " |", "abc"):
        for many in (1, 2, 3, 4, 5, 6):
            lists.append((alphabet, drawn_pairs(dice, alphabet, many)))
    return lists


def large_lists():
    """(alphabet, pairs) of lists as large as the document allows: many joins, long pieces, deep spines."""
    return [(alphabet, pairs) for alphabet, pairs in many_lists() if len(pairs) >= 29] + [DOUBLING]


def all_texts(alphabet, many):
    """All texts of many letters, ascending."""
    return ["".join(signs) for signs in itertools.product(alphabet, repeat=many)]


def texts_up_to(alphabet, longest):
    """All texts of at most this many letters, by length and then ascending."""
    return [text for many in range(longest + 1) for text in all_texts(alphabet, many)]


def cuts_with(alphabet, pairs, many):
    """All cuts with many pieces, ascending, found by cutting the text of each row."""
    texts = literal_texts(alphabet, pairs)
    rows = itertools.product(range(len(texts)), repeat=many)
    return [row for row in rows if literal_cut(alphabet, pairs, "".join([texts[piece] for piece in row])) == row]


class Quick:
    """with Quick(seconds): fails if what stands in it takes longer; far more seconds than it should take."""

    def __init__(self, seconds):
        self.seconds = seconds

    def __enter__(self):
        self.begin = time.perf_counter()

    def __exit__(self, kind, value, trace):
        taken = time.perf_counter() - self.begin
        if kind is None and taken > self.seconds:
            raise AssertionError(f"took {taken} seconds")


def drawn_machine(dice, alphabet, states, gaps=4, ends=3):
    """(alphabet, start, ends, steps): one of so many steps is missing (none if 0), one of so many states is an end."""
    steps = []
    for _ in range(states):
        steps.append([None if gaps and dice.below(gaps) == 0 else dice.below(states) for _ in alphabet])
    taking = [state for state in range(states) if dice.below(ends) == 0]
    return alphabet, dice.below(states), taking[::-1], steps


def many_machines(alphabet):
    """(alphabet, start, ends, steps) of machines of several kinds, as lists and tuples."""
    none = [None] * len(alphabet)
    machines = [
        (alphabet, 0, (), (tuple(none),)),
        (alphabet, 0, (0,), (tuple(none),)),
        (alphabet, 0, (), ((0,) * len(alphabet),)),
        (alphabet, 0, [0], [[0] * len(alphabet)]),
        # State 0 can't be come to, from state 2 no end can be come to, states 1 and 3 take the same texts.
        (alphabet, 1, [3, 1], [[0] + none[1:], [3] + [2] * (len(alphabet) - 1), [2] * len(alphabet),
                               [1] + [2] * (len(alphabet) - 1)]),
    ]
    dice = Dice(len(alphabet))
    for states in (2, 3, 5, 8, 12):
        for gaps, ends in ((4, 3), (0, 2), (2, 2)):
            machines.append(drawn_machine(dice, alphabet, states, gaps, ends))
    return machines


def literal_after(alphabet, steps, state, text):
    """[20] letter by letter."""
    for sign in text:
        if state is not None:
            state = steps[state][alphabet.index(sign)]
    return state


def literal_takes(machine, text):
    """Whether the machine, (alphabet, start, ends, steps), takes the text."""
    alphabet, start, ends, steps = machine
    return literal_after(alphabet, steps, start, text) in list(ends)


def taken_up_to(machine, longest):
    """The texts of at most this many letters that the machine, (alphabet, start, ends, steps), takes."""
    return [text for text in texts_up_to(machine[0], longest) if literal_takes(machine, text)]


def told_error(test, kind, call, **attributes):
    """The error that the call raises, which is of this very kind and has these attributes."""
    with test.assertRaises(JoinError) as caught:
        call()
    test.assertIs(caught.exception.__class__, kind)
    for name, value in attributes.items():
        test.assertEqual(getattr(caught.exception, name), value)
        test.assertIs(getattr(caught.exception, name).__class__, value.__class__)
    return caught.exception


def fraction(share):
    """The share as a fraction of Python's own, if it is in lowest terms with under above 0."""
    found = Fraction(share.over, share.under)
    if (share.over, share.under) != (found.numerator, found.denominator):
        raise AssertionError(f"not in lowest terms: {share.over} / {share.under}")
    return found


def none_ahead(value):
    """A key by which None stands ahead of all integers and strings."""
    return (value is not None, value or 0)


def drawn_table(dice, alphabet, pairs, many, ends=2, forward=False):
    """A table with None and at most so many pieces; one of so many rows, or each without other choices, has the end.

    With forward each piece is followed by later pieces of some order only, so that all its rows come to an end.
    """
    neighbors = {pair: True for pair in cuts_with(alphabet, pairs, 2)}
    rest = list(range(len(alphabet) + len(pairs)))
    pieces = []
    while rest and len(pieces) < many:
        pieces.append(rest.pop(dice.below(len(rest))))
    table = []
    for at, last in enumerate([None] + pieces):
        fitting = [piece for piece in (pieces[at:] if forward else pieces) if last is None or (last, piece) in neighbors]
        choices = [[piece, 1 + dice.below(7)] for piece in fitting if dice.below(4) > 0]
        if not choices or dice.below(ends) == 0:
            choices.insert(dice.below(len(choices) + 1), [None, 1 + dice.below(7)])
        table.insert(dice.below(len(table) + 1), [last, choices])
    return table


def weights_of(table):
    """The table as a dict of dicts."""
    return {last: dict([tuple(choice) for choice in choices]) for last, choices in table}


def literal_chance(table, choices):
    """[24]: the product of the chances of these choices, pieces and perhaps None behind them."""
    weights = weights_of(table)
    chance = Fraction(1)
    last = None
    for following in choices:
        if following not in weights.get(last, {}):
            return Fraction(0)
        chance *= Fraction(weights[last][following], sum(weights[last].values()))
        last = following
    return chance


def ended_rows(table, most=None):
    """All rows (of at most so many pieces) that come to an end in the table."""
    weights = weights_of(table)
    rows = []
    waiting = [()]
    while waiting:
        row = waiting.pop()
        choices = weights[row[-1] if row else None]
        if None in choices:
            rows.append(row)
        if most is None or len(row) < most:
            waiting.extend([row + (piece,) for piece in choices if piece is not None])
    return rows


def common_beginning(rows):
    """The longest common beginning of the rows."""
    rows = list(rows)
    many = 0
    while all([len(row) > many for row in rows]) and len(set([row[many] for row in rows])) == 1:
        many += 1
    return rows[0][:many]


def endings_of(alphabet, pairs):
    """The empty text and all endings of the texts of pieces."""
    endings = {"": True}
    for piece in literal_texts(alphabet, pairs):
        for at in range(len(piece)):
            endings[piece[at:]] = True
    return list(endings)


def sure_row(joins, endings, text):
    """The longest common beginning of the cuts of the texts that go on from this one with one of the endings."""
    # Where the text ends inside of the last piece of some cut, the rest of this piece is among the endings.
    return common_beginning([cut(joins, text + ending) for ending in endings])


def finite_machine(alphabet, texts):
    """(alphabet, start, ends, steps) of a machine that takes just these texts."""
    beginnings = sorted(set([text[:many] for text in list(texts) + [""] for many in range(len(text) + 1)]))
    steps = []
    for beginning in beginnings:
        longer = [beginning + letter for letter in alphabet]
        steps.append([beginnings.index(text) if text in beginnings else None for text in longer])
    return alphabet, 0, [beginnings.index(text) for text in texts], steps


def literal_neighbors(alphabet, pairs, corpus):
    """[10]: the totals of the neighbors in the cuts of the texts."""
    totals = {}
    for text, count in corpus:
        row = literal_cut(alphabet, pairs, text)
        for at in range(len(row) - 1):
            pair = (row[at], row[at + 1])
            totals[pair] = totals.get(pair, 0) + count
    ordered = sorted([(-total, pair) for pair, total in totals.items()])
    return tuple([(pair, -negative) for negative, pair in ordered])


def literal_learn(alphabet, corpus, many):
    """[10]: the pairs that are learnt, all texts cut anew for each."""
    pairs = []
    while len(pairs) < many:
        totals = literal_neighbors(alphabet, pairs, corpus)
        if not totals or totals[0][1] < 2:
            break
        pair = totals[0][0]
        texts = literal_texts(alphabet, pairs)
        if len(texts[pair[0]] + texts[pair[1]]) > 40:
            break
        pairs.append(pair)
    return tuple(pairs)


NAMES = ((), ("a",), ("ab", "a", "abc", "b"), ("z", "end", "begin", "b", "be", "beg", "abcdefgh", "abcdefg", "x", "endx"))


def tokenizer_lists(blank_inside=False):
    """(alphabet, pairs) of lists with and without blanks, by default without pieces that have one behind their first sign."""
    lists = [EXAMPLE, (" abc", ((1, 2), (0, 1), (4, 3), (0, 4))), (" ", ()), (" a", ((0, 1), (1, 1))), ("a", ((0, 0),)),
             (" ab", ((0, 1), (1, 1), (3, 2), (2, 2), (0, 2)))]
    dice = Dice(43)
    for alphabet in (" a", " ab", " abe", "ab", " .bn~"):
        for many in (2, 5, 12):
            lists.append((alphabet, drawn_pairs(dice, alphabet, many, 600, blank_inside)))
    if blank_inside:
        lists.extend([(" a", ((1, 0),)), (" ", ((0, 0), (1, 1))), (" a", ((0, 0), (1, 2), (2, 0)))])
    return lists


def texts_with_marks(dice, alphabet, pairs, names, many=8, longest=8):
    """Texts of letters, pieces, blanks if these are letters, and marks, some of them with two marks side by side."""
    pieces = literal_texts(alphabet, pairs)
    texts = [""] + [f"<{name}>" for name in names]
    for _ in range(many):
        parts = []
        for _ in range(dice.below(longest + 1)):
            kind = dice.below(4)
            if kind == 0 and names:
                parts.append(f"<{names[dice.below(len(names))]}>")
            elif kind == 1 and " " in alphabet:
                parts.append(" ")
            else:
                parts.append(pieces[dice.below(len(pieces))])
        texts.append("".join(parts))
    return texts
