"""Machines of patterns, and least machines."""

from rankedjoins.checks import check_alphabet
from rankedjoins.errors import InvalidText
from rankedjoins.grammars import Machine
from rankedjoins.readers import PatternReader, wrong_place


def machine_of(alphabet, pattern):
    """The least machine that takes just the texts of the pattern."""
    check_alphabet(alphabet)
    at = wrong_place(alphabet, pattern)
    if at is not None:
        raise InvalidText(pattern, at)
    reader = PatternReader(pattern)
    fitting = [places_of_letter(reader.signs, letter) for letter in alphabet]
    # A state is the set of the places that may come next; they are the bits of one number.
    return least(explored(
        alphabet, reader.begin,
        lambda places: [places_behind(reader.follows, places & fits) for fits in fitting],
        lambda state: state & reader.end != 0,
    ))


def places_of_letter(signs, letter):
    """The places at which the letter may be read."""
    return sum([1 << place for place, sign in enumerate(signs) if sign in (letter, ".")])


def places_behind(follows, places):
    """The places that may come behind one of these."""
    found = 0
    for place, behind in enumerate(follows):
        if (places >> place) & 1 == 1:
            found |= behind
    return found


def explored(alphabet, start, entry_of, is_end):
    """The machine whose states are the start and all that can be come to, in the order in which they are come to.

    entry_of tells for a state the next one for each letter, or None; the states may be any keys of a dict.
    """
    states = [start]
    numbers = {start: 0}
    steps = []
    while len(steps) < len(states):
        entry = entry_of(states[len(steps)])
        for state in entry:
            if state is not None and state not in numbers:
                numbers[state] = len(states)
                states.append(state)
        steps.append([None if state is None else numbers[state] for state in entry])
    ends = [number for number, state in enumerate(states) if is_end(state)]
    return Machine(alphabet, 0, ends, steps)


def live_states(machine):
    """A dict with the states from which an end can be come to."""
    origins = [[] for _ in machine.steps]
    for state, entry in enumerate(machine.steps):
        for following in entry:
            if following is not None:
                origins[following].append(state)
    live = {state: True for state in machine.ends}
    waiting = list(machine.ends)
    while len(waiting) > 0:
        following = waiting.pop()
        for state in origins[following]:
            if state not in live:
                live[state] = True
                waiting.append(state)
    return live


def classes_of(steps, ends):
    """For each state a number; two states have the same one if they take the same texts from there on."""
    many = 0
    classes = [state in ends for state in range(len(steps))]
    while len(set(classes)) > many:
        many = len(set(classes))
        numbers = {}
        parted = []
        for state, entry in enumerate(steps):
            told = [None if following is None else classes[following] for following in entry]
            parted.append(numbers.setdefault((classes[state], tuple(told)), len(numbers)))
        classes = parted
    return classes


def least(machine):
    """The least machine that takes the same texts."""
    live = live_states(machine)
    steps = [[state if state in live else None for state in entry] for entry in machine.steps]
    classes = classes_of(steps, machine.ends)
    entries = {}
    for state, entry in enumerate(steps):
        entries[classes[state]] = [None if following is None else classes[following] for following in entry]
    ends = [classes[state] for state in machine.ends]
    return explored(
        machine.alphabet, classes[machine.start],
        lambda number: entries[number],
        lambda key: key in ends,
    )


def entry_at(machine, state):
    """The steps from this state; from no state there is none."""
    return [None for _ in machine.alphabet] if state is None else machine.steps[state]


def combined(machine, other, is_taken):
    """The least machine that takes a text if is_taken says so of whether machine takes it and whether other does."""
    return least(explored(
        machine.alphabet, (machine.start, other.start),
        lambda pair: list(zip(entry_at(machine, pair[0]), entry_at(other, pair[1]))),
        lambda states: is_taken(states[0] in machine.ends, states[1] in other.ends),
    ))


def both(machine, other):
    """The least machine that takes what both take."""
    return combined(machine, other, lambda first, second: first and second)


def either(machine, other):
    """The least machine that takes what one of them takes."""
    return combined(machine, other, lambda first, second: first or second)


def but(machine, other):
    """The least machine that takes what machine takes and other does not."""
    return combined(machine, other, lambda first, second: first and not second)
