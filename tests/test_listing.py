"""[7]: lists of joins as texts."""

import unittest

from rankedjoins.errors import InvalidText
from rankedjoins.joinlists import Joins
from rankedjoins.listing import read_joins, write_joins
from support import ALPHABET_OF_30, ALPHABET_OF_31, DOUBLING, EXAMPLE, SIXTY, many_lists

EXAMPLE_TEXT = "|abc|\n0 1\n3 2\n0 0\n"


class Writing(unittest.TestCase):
    def test_the_example(self):
        self.assertEqual(write_joins(Joins(*EXAMPLE)), EXAMPLE_TEXT)

    def test_no_join(self):
        self.assertEqual(write_joins(Joins("a", ())), "|a|\n")

    def test_numbers_of_two_digits(self):
        self.assertEqual(write_joins(Joins(ALPHABET_OF_30, ((10, 29), (30, 2)))), f"|{ALPHABET_OF_30}|\n10 29\n30 2\n")

    def test_by_name(self):
        self.assertEqual(write_joins(joins=read_joins(text=EXAMPLE_TEXT)), EXAMPLE_TEXT)


class Reading(unittest.TestCase):
    def test_what_is_written_is_read_again(self):
        for alphabet, pairs in many_lists() + [("|", ()), (" |", ((0, 1), (1, 1))), ("!|}", ((1, 1), (3, 3)))]:
            joins = Joins(alphabet, pairs)
            read = read_joins(write_joins(joins))
            self.assertEqual(read, joins)
            self.assertEqual((read.alphabet, read.pairs), (alphabet, pairs))

    def wrong_at(self, text):
        with self.assertRaises(InvalidText) as caught:
            read_joins(text)
        self.assertIs(caught.exception.text, text)
        return caught.exception.at

    def test_a_text_without_a_line(self):
        self.assertEqual(self.wrong_at(""), 0)
        for text in ("|abc|", "abc", "0 1", "|", "||", " "):
            self.assertEqual(self.wrong_at(text), 0, text)

    def test_wrong_first_lines(self):
        for line in ("", "|", "||", "|ab", "ab|", "ab", " |ab|", "|ab| ", "|ba|", "|aa|", f"|{ALPHABET_OF_31}|", "|||a|",
                     "0 1"):
            self.assertEqual(self.wrong_at(line + "\n"), 0, line)
            self.assertEqual(self.wrong_at(line + "\n0 0\nx"), 0, line)
        self.assertEqual(read_joins("|a||\n").alphabet, "a|")
        self.assertEqual(read_joins("|||\n").alphabet, "|")
        self.assertEqual(read_joins("| |\n").alphabet, " ")
        self.assertEqual(read_joins(f"|{ALPHABET_OF_30}|\n").alphabet, ALPHABET_OF_30)

    def test_a_text_that_does_not_end_in_a_line_feed(self):
        self.assertEqual(self.wrong_at("|abc|\n0 1"), 1)
        self.assertEqual(self.wrong_at("|abc|\n0 1\n3 2\n0 0"), 3)
        self.assertEqual(self.wrong_at(EXAMPLE_TEXT + " "), 4)
        self.assertEqual(self.wrong_at("|abc|\n0 1\n0 1\n3 2"), 2)

    def test_lines_of_another_form(self):
        for line in ("", " ", "0", "0 ", " 1", "0  1", "0 1 ", " 0 1", "0 1 2", "00 1", "0 01", "0 00", "-1 0", "0 -1", "+0 1",
                     "0,1", "a 1", "0 b", "0 1.0", "0_0 1", "0x0 1", "(0 1)", "|abc|", "0 " + "1" * 400):
            self.assertEqual(self.wrong_at(f"|abc|\n{line}\n"), 1, line)
            self.assertEqual(self.wrong_at(f"|abc|\n0 1\n{line}\n3 2\n"), 2, line)

    def test_numbers_of_4_and_of_5_digits(self):
        for word in ("9999", "1000", "99999", "10000", "00001", "0001"):
            self.assertEqual(self.wrong_at(f"|abc|\n0 1\n0 {word}\n"), 2)
            self.assertEqual(self.wrong_at(f"|abc|\n0 1\n{word} 0\n"), 2)

    def test_lines_that_make_the_list_not_proper(self):
        self.assertEqual(self.wrong_at("|abc|\n0 1\n3 2\n0 1\n"), 3)
        self.assertEqual(self.wrong_at("|abc|\n0 3\n"), 1)
        self.assertEqual(self.wrong_at("|abc|\n0 1\n1 2\n0 4\n0 0\n"), 3)
        self.assertEqual(self.wrong_at(write_joins(Joins(*DOUBLING)) + "6 0\n"), 7)

    def test_the_first_wrong_line_is_told_whatever_its_fault(self):
        self.assertEqual(self.wrong_at("|abc|\n0 1\n0 1\nx\n"), 2)
        self.assertEqual(self.wrong_at("|abc|\n0 1\nx\n0 1\n"), 2)
        self.assertEqual(self.wrong_at("|abc|\n0 1\n9 9\nx"), 2)
        self.assertEqual(self.wrong_at("|cba|\n0 1\nx\n"), 0)

    def test_60_joins_and_the_line_of_a_61st(self):
        text = write_joins(Joins(*SIXTY))
        self.assertEqual(len(read_joins(text)), 60)
        self.assertEqual(len(Joins(SIXTY[0], SIXTY[1] + ((7, 7),))), 61)
        self.assertEqual(self.wrong_at(text + "7 7\n"), 61)
        self.assertEqual(self.wrong_at(text + "7 7"), 61)
        self.assertEqual(self.wrong_at(text + "7 7\nx\n"), 61)
        self.assertEqual(self.wrong_at(text + "x"), 61)
        lines = text.split("\n")
        lines[60] = "0 0"
        self.assertEqual(self.wrong_at("\n".join(lines) + "7 7\n"), 60)


if __name__ == "__main__":
    unittest.main()
