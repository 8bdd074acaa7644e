"""How likely texts begin with some letters, and which letter comes next."""

from rankedjoins.errors import NoChance
from rankedjoins.shares import Share
from rankedjoins.tails import chain, tails


class Openings:
    """The rows of pieces of a model that come to the end of a text or first go beyond it.

    Ahead of its last piece such a row is the cut of a beginning of the text. All chances are told as integers: they are
    parts of the whole, the product of the sums of weights behind the tails of all beginnings, the empty one among them.
    """

    def __init__(self, model, text):
        self._model = model
        self._text = text
        self._tails = tails(model.joins, text)
        self.whole = 1
        for at in range(len(text) + 1):
            self.whole = self.whole * model.sum_behind(self.last_at(at))
        self._units = []
        for at in range(len(text) + 1):
            self._units.append(self.unit_at(at))

    def last_at(self, at):
        """The last piece of the cut of what is ahead of this place, None at the beginning."""
        return None if at == 0 else self._tails[at - 1]

    def unit_at(self, at):
        """The chance of the cut of what is ahead of this place, parted by the sum of weights behind it."""
        last = self.last_at(at)
        chance = self.whole
        if last is not None:
            begin = at - len(self._model.joins.text_of(last))
            chance = self._units[begin] * self._model.weight_of(self.last_at(begin), last)
        # No part is lost: the sum is a factor of the whole by which no place ahead of this one has parted it.
        return chance // self._model.sum_behind(last)

    def end_chance(self):
        """The chance of the cut of the text, and of the end behind it."""
        at = len(self._text)
        return self._units[at] * self._model.weight_of(self.last_at(at), None)

    def pieces_at(self, at):
        """(piece, chance) for the pieces that come from this place to the end of the text or beyond, ascending."""
        unit = self._units[at]
        if unit == 0:
            return []
        rest = self._text[at:]
        choices = [(piece, weight) for piece, weight in self._model.choices_of(self.last_at(at)) if piece is not None]
        return [(piece, unit * weight) for piece, weight in choices if self.text_of(piece).startswith(rest)]

    def text_of(self, piece):
        """The text of the piece."""
        return self._model.joins.text_of(piece)

    def row_ahead(self, at):
        """The cut of what is ahead of this place."""
        return chain(self._model.joins, self._tails[:at])

    def chance(self):
        """The chance that a text begins with this one."""
        if self._text == "":
            return self.whole
        return sum([chance for at in range(len(self._text)) for _, chance in self.pieces_at(at)])

    def chances_of_signs(self):
        """For each letter that may come next behind the text: the chance that a text begins with both."""
        chances = {}
        for at in range(len(self._text) + 1):
            length_read = len(self._text) - at
            for piece, chance in self.pieces_at(at):
                text = self.text_of(piece)
                # Behind a piece that ends with the text, the sign is told by what comes from the end of the text on.
                if len(text) > length_read:
                    chances[text[length_read]] = chances.get(text[length_read], 0) + chance
        return chances


def covers(model, text):
    """All rows with a chance that come to the end of the text with their last piece, not ahead of it; ascending."""
    openings = Openings(model, text)
    if text == "":
        return ((),)
    found = []
    for at in range(len(text)):
        found.extend([openings.row_ahead(at) + (piece,) for piece, _ in openings.pieces_at(at)])
    return tuple(sorted(found))


def begins(model, text):
    """The chance that a text that is drawn piece by piece begins with this one."""
    openings = Openings(model, text)
    return Share(openings.chance(), openings.whole)


def next_signs(model, text):
    """(sign, share) for the end, which is None, and each letter that may come next behind the text."""
    openings = Openings(model, text)
    chance = openings.chance()
    if chance == 0:
        raise NoChance(text)
    chances = openings.chances_of_signs()
    found = [(None, openings.end_chance())] + [(sign, chances.get(sign, 0)) for sign in model.joins.alphabet]
    return tuple([(sign, Share(part, chance)) for sign, part in found if part > 0])
