"""Machines that read letters."""

from rankedjoins.rows import letter_row


class Machine:
    """States, and steps from state to state by letters; it never changes."""

    def __init__(self, alphabet, start, ends, steps):
        self.alphabet = alphabet
        self.start = start
        self.ends = tuple(sorted(ends))
        self.steps = tuple([tuple(entry) for entry in steps])

    def __eq__(self, other):
        return (
            isinstance(other, Machine) and self.alphabet == other.alphabet and self.start == other.start
            and self.ends == other.ends and self.steps == other.steps
        )

    def after(self, state, text):
        """The state after these letters, None if there is no step; UnknownSign if a sign is no letter."""
        # All of the text is asked first: a sign that is no letter counts behind a missing step, too.
        for letter in letter_row(self.alphabet, text):
            if state is None:
                return None
            state = self.steps[state][letter]
        return state

    def takes(self, text):
        """Whether the text leads from the start to an end."""
        return self.after(self.start, text) in self.ends
