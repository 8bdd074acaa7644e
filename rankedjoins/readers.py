"""Reading patterns: which of their letters and dots may come first, last, and behind one another."""

REPEATS = "*+?"
NO_SIGNS = (True, 0, 0)


def wrong_place(alphabet, pattern):
    """None for a pattern, otherwise the length of the longest beginning that is also a beginning of some pattern."""
    depth = 0
    is_behind_item = False
    for at, sign in enumerate(pattern):
        if sign in REPEATS:
            fits = is_behind_item
        elif sign == ")":
            fits = depth > 0
            depth -= 1
        elif sign == "(":
            fits = True
            depth += 1
        else:
            fits = sign in "|." or sign in alphabet
        if not fits:
            return at
        is_behind_item = sign not in "(|"
    # Closing what is open makes a pattern of any text that came so far.
    return None if depth == 0 else len(pattern)


class PatternReader:
    """Reads a pattern; its letters and dots, in order, are the places 0, 1, ... and the end is the place behind them.

    A stretch of the pattern is told as (whether it takes the empty text, places that may come first in it, places that
    may come last in it). Places are told as the bits of one number.
    """

    def __init__(self, pattern):
        self._pattern = pattern
        self._at = 0
        self.signs = []
        self.follows = []
        takes_nothing, firsts, lasts = self.read_pattern()
        self.end = 1 << len(self.signs)
        self.link(lasts, self.end)
        self.begin = firsts | self.end if takes_nothing else firsts

    def link(self, lasts, firsts):
        """From now on these firsts may follow these lasts."""
        self.follows = [
            behind | firsts if (lasts >> place) & 1 == 1 else behind for place, behind in enumerate(self.follows)
        ]

    def sign(self):
        """The sign that is read next, the empty string at the end."""
        return self._pattern[self._at:self._at + 1]

    def read_pattern(self):
        """Reads branches; the stretch that they are."""
        stretch = self.read_branch()
        while self.sign() == "|":
            self._at += 1
            empty, firsts, lasts = stretch
            branch_empty, branch_firsts, branch_lasts = self.read_branch()
            stretch = (empty or branch_empty, firsts | branch_firsts, lasts | branch_lasts)
        return stretch

    def read_branch(self):
        """Reads items; the stretch that they are, one after the other."""
        stretch = NO_SIGNS
        while self.sign() not in ("", "|", ")"):
            empty, firsts, lasts = stretch
            item_empty, item_firsts, item_lasts = self.read_item()
            self.link(lasts, item_firsts)
            if empty:
                firsts |= item_firsts
            if item_empty:
                item_lasts |= lasts
            stretch = (empty and item_empty, firsts, item_lasts)
        return stretch

    def read_item(self):
        """Reads an item with the signs of repetition behind it; the stretch that it is."""
        empty, firsts, lasts = self.read_single()
        while self.sign() in ("*", "+", "?"):
            if self.sign() != "?":
                self.link(lasts, firsts)
            if self.sign() != "+":
                empty = True
            self._at += 1
        return empty, firsts, lasts

    def read_single(self):
        """Reads a letter, a dot, or a pattern in parentheses; the stretch that it is."""
        sign = self.sign()
        self._at += 1
        if sign == "(":
            stretch = self.read_pattern()
            self._at += 1
            return stretch
        place = 1 << len(self.signs)
        self.signs.append(sign)
        self.follows.append(0)
        return False, place, place
