"""The main promise of section 1, over the whole program."""

import itertools
import unittest

from rankedjoins.codestreams import CodeStream
from rankedjoins.joinlists import Joins
from rankedjoins.judges import is_cut, judge
from rankedjoins.pages import Page, cut_in_parts, glued
from rankedjoins.plain import cut, letters_of, staged, text_of_row
from rankedjoins.streams import Stream
from rankedjoins.tails import chain, tails
from rankedjoins.tokenizers import Tokenizer
from support import (Dice, Quick, large_lists, literal_cut, literal_texts, many_lists, rows_for, small_lists, texts_for,
                     tokenizer_lists)


def breaks_of(dice, text, longest):
    """The text in parts of drawn lengths, some of them empty."""
    parts = []
    at = 0
    while at < len(text):
        many = dice.below(longest + 1)
        parts.append(text[at:at + many])
        at += many
    return parts


def streamed(joins, parts):
    """What a stream tells of these parts, one after the other."""
    stream = Stream(joins)
    row = ()
    for part in parts:
        row += stream.feed(part)
    return row + stream.finish()


def edited(dice, joins, text, other):
    """The cut of a page that comes to the text by edits, some of them taken back."""
    page = Page(joins, other)
    page.take_out(0, dice.below(len(other) + 1))
    page.undo()
    for at, sign in enumerate(text):
        page.put_in(at, sign)
        if dice.below(3) == 0:
            page.put_in(dice.below(len(page) + 1), other)
            page.undo()
            page.undo()
            page.redo()
    page.take_out(len(text), len(other))
    return page.cut_row()


def glued_in_two(dice, joins, text):
    """The cuts of beginnings and endings, each cut the same way in halves."""
    if len(text) < 2:
        return cut(joins, text)
    at = dice.below(len(text) + 1) if dice.below(5) == 0 else len(text) // 2
    if at in (0, len(text)):
        return glued(joins, cut(joins, text[:at]), cut(joins, text[at:]))
    return glued(joins, glued_in_two(dice, joins, text[:at]), glued_in_two(dice, joins, text[at:]))


class TheMainPromise(unittest.TestCase):
    def all_ways(self, dice, joins, text, other):
        """The rows that come out however the text is read."""
        parts = breaks_of(dice, text, 7)
        return [
            cut(joins, text), staged(joins, letters_of(joins, text), len(joins)), chain(joins, tails(joins, text)),
            streamed(joins, parts), streamed(joins, [text]), streamed(joins, list(text)), edited(dice, joins, text, other),
            glued_in_two(dice, joins, text), cut_in_parts(joins, parts),
        ]

    def test_the_same_pieces_come_out_however_a_text_is_read(self):
        dice = Dice(103)
        for alphabet, pairs in many_lists():
            joins = Joins(alphabet, pairs)
            for text in texts_for(alphabet, pairs, 2):
                expected = literal_cut(alphabet, pairs, text)
                for row in self.all_ways(dice, joins, text, alphabet[:3] * 2):
                    self.assertEqual(row, expected)
                self.assertIs(judge(joins, text, expected), True)

    def test_a_row_is_the_cut_of_its_text_if_and_only_if_every_two_neighbors_are(self):
        cuts = 0
        for alphabet, pairs in small_lists():
            joins = Joins(alphabet, pairs)
            pieces = literal_texts(alphabet, pairs)
            for many in (0, 1, 2, 3):
                for row in itertools.islice(itertools.product(range(len(pieces)), repeat=many), 250):
                    neighbors = [literal_cut(alphabet, pairs, pieces[left] + pieces[right]) == (left, right)
                                 for left, right in zip(row, row[1:])]
                    text = "".join([pieces[piece] for piece in row])
                    self.assertIs(literal_cut(alphabet, pairs, text) == row, all(neighbors))
                    self.assertIs(is_cut(joins, row), all(neighbors))
                    self.assertIs(judge(joins, text, row), all(neighbors))
                    cuts += all(neighbors)
        self.assertGreater(cuts, 1000)

    def test_longer_rows(self):
        told = {True: 0, False: 0}
        for alphabet, pairs in many_lists():
            joins = Joins(alphabet, pairs)
            rows = rows_for(alphabet, pairs) + [cut(joins, text) for text in texts_for(alphabet, pairs, 3)]
            for row in rows:
                neighbors = [cut(joins, text_of_row(joins, pair)) == pair for pair in zip(row, row[1:])]
                self.assertIs(cut(joins, text_of_row(joins, row)) == row, all(neighbors))
                self.assertIs(is_cut(joins, row), all(neighbors))
                told[all(neighbors)] += len(row) > 3
        self.assertGreater(min(told.values()), 100)

    def test_code_streams_tell_the_cuts_of_chunks(self):
        dice = Dice(107)
        for alphabet, pairs in tokenizer_lists():
            joins = Joins(alphabet, pairs)
            tokenizer = Tokenizer(joins, ("b",))
            for text in texts_for(alphabet, pairs, 3):
                # No piece has a blank behind its first sign, so the chunks are cut as the whole text is.
                expected = cut(joins, text)
                codes = CodeStream(tokenizer)
                row = ()
                for part in breaks_of(dice, text, 5):
                    row += codes.feed(part)
                self.assertEqual(row + codes.finish(), expected)
                self.assertEqual(tokenizer.numbers_of(text), expected)

    def test_long_texts(self):
        dice = Dice(109)
        for alphabet, pairs in large_lists():
            joins = Joins(alphabet, pairs)
            pieces = literal_texts(alphabet, pairs)
            text = "".join([pieces[dice.below(len(pieces))] for _ in range(200)])[:190]
            with Quick(10):
                rows = self.all_ways(dice, joins, text, alphabet[-1] * 10)
            self.assertEqual(rows, rows[:1] * len(rows))
            self.assertTrue(is_cut(joins, rows[0]))


if __name__ == "__main__":
    unittest.main()
