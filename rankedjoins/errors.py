"""The errors of the package, all directly under JoinError."""


class JoinError(ValueError):
    """What all errors of the package have in common; it is never raised itself."""


class InvalidAlphabet(JoinError):
    """A string that is not the alphabet of a list of joins."""

    def __init__(self, alphabet):
        super().__init__(f"not an alphabet: {alphabet!r}")
        self.alphabet = alphabet


class NotProper(JoinError):
    """A list of joins that is not proper, and the lowest rank at which it is not."""

    def __init__(self, rank):
        super().__init__(f"not proper at rank {rank!r}")
        self.rank = rank


class NoPiece(JoinError):
    """A value that is no piece of the list."""

    def __init__(self, piece):
        super().__init__(f"no piece: {piece!r}")
        self.piece = piece


class UnknownSign(JoinError):
    """A sign that is no letter, and its place in its text."""

    def __init__(self, sign, at):
        super().__init__(f"no letter: {sign!r} at {at!r}")
        self.sign = sign
        self.at = at


class InvalidText(JoinError):
    """A text that is not of its form, and the place where it goes wrong."""

    def __init__(self, text, at):
        super().__init__(f"wrong at {at!r}: {text!r}")
        self.text = text
        self.at = at


class InvalidNumber(JoinError):
    """A value that is no number, or one outside of its limits."""

    def __init__(self, number):
        super().__init__(f"not a number within its limits: {number!r}")
        self.number = number


class NotCut(JoinError):
    """A row that is not the cut of its text."""

    def __init__(self, row):
        super().__init__(f"not a cut: {row!r}")
        self.row = row


class InvalidModel(JoinError):
    """A table that is no model, and the last at which it is not."""

    def __init__(self, last):
        super().__init__(f"no model, at last {last!r}")
        self.last = last


class NoChance(JoinError):
    """A text that has no chance."""

    def __init__(self, text):
        super().__init__(f"no chance: {text!r}")
        self.text = text
