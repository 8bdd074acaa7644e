"""[23]: shares."""

import unittest
from fractions import Fraction

from rankedjoins.errors import InvalidNumber
from rankedjoins.shares import Share
from support import Dice, Quick, fraction, told_error

BIG = 7 ** 400
VALUES = ((0, 1), (0, -5), (1, 1), (-1, 1), (6, 4), (-6, 4), (6, -4), (-6, -4), (1, 3), (2, 3), (-1, 3), (12, 12), (40, 8),
          (BIG, 3), (3, BIG), (-BIG, BIG + 1), (BIG * 10, BIG * 4))


class Shares(unittest.TestCase):
    def test_lowest_terms_with_under_above_0(self):
        for (over, under), expected in (((6, 4), (3, 2)), ((-6, 4), (-3, 2)), ((6, -4), (-3, 2)), ((-6, -4), (3, 2)),
                                        ((0, 9), (0, 1)), ((0, -9), (0, 1)), ((5, 5), (1, 1)), ((7, -7), (-1, 1)),
                                        ((-8, 2), (-4, 1)), ((3, 7), (3, 7)), ((BIG * 6, BIG * 4), (3, 2))):
            share = Share(over, under)
            self.assertEqual((share.over, share.under), expected)

    def test_what_is_known_of_all_values(self):
        for over, under in VALUES:
            self.assertEqual(fraction(Share(over, under)), Fraction(over, under))

    def test_sums_differences_and_products(self):
        for first in VALUES:
            for second in VALUES:
                share, other = Share(*first), Share(*second)
                for found, expected in ((share + other, Fraction(*first) + Fraction(*second)),
                                        (share - other, Fraction(*first) - Fraction(*second)),
                                        (share * other, Fraction(*first) * Fraction(*second))):
                    self.assertIs(found.__class__, Share)
                    self.assertEqual(fraction(found), expected)
                self.assertEqual((fraction(share), fraction(other)), (Fraction(*first), Fraction(*second)))

    def test_drawn_shares(self):
        dice = Dice(3)
        for _ in range(500):
            first = (dice.below(41) - 20, 1 + dice.below(20))
            second = (dice.below(41) - 20, -1 - dice.below(20))
            share, other = Share(*first), Share(*second)
            one, two = Fraction(*first), Fraction(*second)
            self.assertEqual([fraction(share + other), fraction(share - other), fraction(share * other)],
                             [one + two, one - two, one * two])
            self.assertIs(share.is_below(other), one < two)
            self.assertIs(other.is_below(share), two < one)
            self.assertIs(share == other, one == two)
            self.assertIs(share != other, one != two)

    def test_equal_shares(self):
        self.assertIs(Share(1, 2) == Share(-3, -6), True)
        self.assertIs(Share(1, 2) != Share(-3, -6), False)
        self.assertIs(Share(0, 2) == Share(0, -7), True)
        for over, under in ((1, 3), (-1, 2), (2, 2), (1, BIG), (0, 1)):
            self.assertIs(Share(1, 2) == Share(over, under), False)
            self.assertIs(Share(1, 2) != Share(over, under), True)

    def test_shares_beside_values_of_another_kind(self):
        for value in (1, 0, True, None, "1", (1, 1), [1, 1], Fraction(1), 1.0):
            self.assertIs(Share(1, 1) == value, False)
            self.assertIs(Share(1, 1) != value, True)

    def test_is_below(self):
        for first in VALUES:
            for second in VALUES:
                self.assertIs(Share(*first).is_below(Share(*second)), Fraction(*first) < Fraction(*second))

    def test_written(self):
        for (over, under), expected in (((3, 1), "3"), ((-1, 2), "-1/2"), ((1, -2), "-1/2"), ((0, 3), "0"), ((0, -3), "0"),
                                        ((-4, 2), "-2"), ((10, 4), "5/2"), ((-100, 7), "-100/7"), ((1, 1), "1")):
            self.assertEqual(Share(over, under).written(), expected)
        for over, under in VALUES:
            self.assertEqual(Share(over, under).written(), str(Fraction(over, under)))

    def test_written_with_many_digits(self):
        for digits in (63, 64, 65, 128, 400, 4299, 4301, 9000):
            # Digits without a common factor that are known without Python writing so large an integer.
            over = 10 ** digits
            under = 10 ** digits + 1
            self.assertEqual(Share(over, 1).written(), "1" + "0" * digits)
            self.assertEqual(Share(-over, under).written(), "-1" + "0" * digits + "/1" + "0" * (digits - 1) + "1")
            self.assertEqual(Share(over - 1, 1).written(), "9" * digits)

    def test_arguments_by_name(self):
        share = Share(under=4, over=2)
        self.assertEqual((share.over, share.under), (1, 2))
        self.assertIs(share.is_below(other=Share(1, 1)), True)

    def test_shares_of_some_hundred_digits_are_quick(self):
        with Quick(5):
            share = Share(0, 1)
            for step in range(60):
                share = share + Share(3 ** step, 7 ** (400 + step)) * Share(2 ** step, 5 ** 300)
            self.assertEqual(fraction(share), share.over * Fraction(1, share.under))


class WrongInputs(unittest.TestCase):
    def test_an_under_of_0(self):
        for over in (0, 1, -1, BIG):
            told_error(self, InvalidNumber, lambda: Share(over, 0), number=0)


if __name__ == "__main__":
    unittest.main()
