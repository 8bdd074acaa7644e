"""Counting cuts, texts and ways, and numbering them."""

from rankedjoins.checks import check_number
from rankedjoins.joinlists import MOST_SIGNS_OF_PIECE
from rankedjoins.judges import check_cut
from rankedjoins.pairs import choices_behind
from rankedjoins.plain import letters_of, text_of_row


def continuations(behind, longest):
    """For k from 0 to longest, for each entry of behind, how many rows of k pieces make a cut behind it."""
    counts = [1 for _ in behind]
    tables = [counts]
    for _ in range(longest):
        counts = [sum([counts[piece] for piece in choices]) for choices in behind]
        tables.append(counts)
    return tables


def count_cuts(joins, many):
    """How many cuts have many pieces."""
    return continuations(choices_behind(joins), many)[many][-1]


def number_of_cut(joins, row):
    """How many cuts with as many pieces are below this one."""
    check_cut(joins, row)
    behind = choices_behind(joins)
    tables = continuations(behind, len(row))
    last = -1
    number = 0
    for at, piece in enumerate(row):
        counts = tables[len(row) - at - 1]
        number += sum([counts[choice] for choice in behind[last] if choice < piece])
        last = piece
    return number


def cut_of_number(joins, many, number):
    """The cut with many pieces that has this many cuts below it."""
    behind = choices_behind(joins)
    tables = continuations(behind, many)
    check_number(number, tables[many][-1])
    last = -1
    row = []
    for rest in reversed(range(many)):
        last, number = choice_with_number(behind[last], tables[rest], number)
        row.append(last)
    return tuple(row)


def choice_with_number(choices, counts, number):
    """(choice, number in it): among the rows that begin with which choice the one with this number is, and where."""
    at = 0
    while number >= counts[choices[at]]:
        number -= counts[choices[at]]
        at += 1
    return choices[at], number


def sums_of(rows, many):
    """The sums, place by place, of rows of at most many numbers."""
    sums = [0 for _ in range(many)]
    for row in rows:
        for at, count in enumerate(row):
            sums[at] += count
    return sums


def texts_by_pieces(joins, many):
    """For k from 0 to many, how many texts of many letters have a cut with k pieces."""
    behind = choices_behind(joins)
    lengths = [len(joins.text_of(piece)) for piece in range(joins.pieces)]
    # tables[n][last] tells by k how many rows of k pieces with n letters make a cut behind last.
    tables = [[[1] for _ in behind]]
    for letters in range(1, many + 1):
        table = []
        for choices in behind:
            rows = [tables[letters - lengths[piece]][piece] for piece in choices if lengths[piece] <= letters]
            table.append([0] + sums_of(rows, letters))
        tables.append(table)
    return tuple(tables[many][-1])


def pieces_at(joins, text, at):
    """(piece, place after it) for the pieces that stand at this place of the text, ascending."""
    found = []
    for end in range(at + 1, min(len(text), at + MOST_SIGNS_OF_PIECE) + 1):
        piece = joins.piece_of(text[at:end])
        if piece is not None:
            found.append((piece, end))
    return sorted(found)


def ways_behind(joins, text):
    """For each place of the text, also the one behind it, how many ways what stands from there on has."""
    counts = [1 for _ in range(len(text) + 1)]
    for at in reversed(range(len(text))):
        counts[at] = sum([counts[end] for _, end in pieces_at(joins, text, at)])
    return counts


def count_ways(joins, text):
    """How many rows of pieces have this text."""
    letters_of(joins, text)
    return ways_behind(joins, text)[0]


def ways(joins, text):
    """All rows of pieces with this text, ascending, one after the other."""
    letters_of(joins, text)
    waiting = [((), 0)]
    while len(waiting) > 0:
        row, at = waiting.pop()
        if at == len(text):
            yield row
        for piece, end in reversed(pieces_at(joins, text, at)):
            waiting.append((row + (piece,), end))


def way_of_number(joins, text, number):
    """The row of pieces with this text that has this many of them below it."""
    letters_of(joins, text)
    counts = ways_behind(joins, text)
    check_number(number, counts[0])
    row = []
    at = 0
    while at < len(text):
        ends = dict(pieces_at(joins, text, at))
        rests = {piece: counts[end] for piece, end in ends.items()}
        piece, number = choice_with_number(list(ends), rests, number)
        row.append(piece)
        at = ends[piece]
    return tuple(row)


def number_of_way(joins, row):
    """How many rows of pieces with the text of this one are below it."""
    text = text_of_row(joins, row)
    counts = ways_behind(joins, text)
    number = 0
    at = 0
    for piece in row:
        number += sum([counts[end] for lower, end in pieces_at(joins, text, at) if lower < piece])
        at += len(joins.text_of(piece))
    return number
