"""[1.2] row_of and fraction_of; [0.2] (a) for rows of fractions; [0.3] kinds, nothing changed, told again."""

import inspect
import itertools
import math
import random
import unittest
from fractions import Fraction

from rootrow.errors import NoNumber, RowError
from rootrow.fractions import is_fraction, lowest
from rootrow.rows import fraction_of, row_of

FAR = 10 ** 30


def reckoned(row):
    value = Fraction(row[-1])
    for part in row[-2::-1]:
        value = part + 1 / value
    return (value.numerator, value.denominator)


def with_last_one_drawn_in(row):
    if len(row) > 1 and row[-1] == 1:
        return row[:-2] + (row[-2] + 1,)
    return row


def small_fractions(bound):
    return [
        (upper, lower)
        for upper in range(-bound, bound + 1)
        for lower in range(1, bound + 1)
        if math.gcd(upper, lower) == 1
    ]


def small_tuples():
    for first in range(-3, 4):
        for length in range(5):
            for others in itertools.product(range(1, 5), repeat=length):
                yield (first,) + others


class Interface(unittest.TestCase):
    def test_arguments(self):
        for function, names in ((row_of, ["fraction"]), (fraction_of, ["row"])):
            with self.subTest(function=function.__name__):
                self.assertEqual(list(inspect.signature(function).parameters), names)

    def test_arguments_by_name(self):
        self.assertEqual(row_of(fraction=(1, 2)), (0, 2))
        self.assertEqual(fraction_of(row=(0, 2)), (1, 2))


class RowOf(unittest.TestCase):
    def check(self, fraction):
        row = row_of(fraction)
        self.assertIs(type(row), tuple)
        self.assertGreaterEqual(len(row), 1)
        for part in row:
            self.assertIs(type(part), int)
        for part in row[1:]:
            self.assertGreaterEqual(part, 1)
        if len(row) > 1:
            self.assertGreaterEqual(row[-1], 2)
        self.assertEqual(reckoned(row), fraction)
        self.assertEqual(fraction_of(row), fraction)
        self.assertEqual(row_of(fraction), row)

    def test_by_hand(self):
        for fraction, row in (
            ((0, 1), (0,)), ((1, 1), (1,)), ((-1, 1), (-1,)), ((17, 1), (17,)), ((-17, 1), (-17,)),
            ((1, 2), (0, 2)), ((3, 2), (1, 2)), ((-1, 2), (-1, 2)), ((-3, 2), (-2, 2)), ((2, 3), (0, 1, 2)),
            ((-1, 3), (-1, 1, 2)), ((-2, 3), (-1, 3)), ((43, 30), (1, 2, 3, 4)), ((355, 113), (3, 7, 16)),
            ((-355, 113), (-4, 1, 6, 16)), ((13, 8), (1, 1, 1, 1, 2)), ((1, 1000), (0, 1000)),
            ((-1, 1000), (-1, 1, 999)), ((FAR, 1), (FAR,)), ((-FAR, 1), (-FAR,)), ((1, FAR), (0, FAR)),
        ):
            with self.subTest(fraction=fraction):
                self.assertEqual(row_of(fraction), row)

    def test_whole_ones(self):
        for n in list(range(-200, 201)) + [FAR, -FAR]:
            self.check((n, 1))

    def test_small_ones(self):
        for fraction in small_fractions(60):
            self.check(fraction)

    def test_up_to_thirty_figures(self):
        chance = random.Random(4)
        for turn in range(2000):
            most = 10 ** chance.randint(1, 30)
            self.check(lowest(chance.randint(-most, most), chance.randint(1, 10 ** chance.randint(1, 30))))

    def test_each_fraction_has_a_row_of_its_own(self):
        fractions = small_fractions(40)
        self.assertEqual(len(set([row_of(fraction) for fraction in fractions])), len(fractions))

    def test_long_row(self):
        row = (-7,) + (1,) * 4000 + (2,)
        self.assertEqual(row_of(fraction_of(row)), row)


class FractionOf(unittest.TestCase):
    def check(self, row):
        fraction = fraction_of(row)
        self.assertIs(type(fraction), tuple)
        self.assertEqual([type(part) for part in fraction], [int, int])
        self.assertIs(is_fraction(fraction), True)
        self.assertEqual(fraction, reckoned(row))
        self.assertEqual(row_of(fraction), with_last_one_drawn_in(row))
        self.assertEqual(fraction_of(row), fraction)

    def test_by_hand(self):
        for row, fraction in (
            ((0,), (0, 1)), ((5,), (5, 1)), ((-5,), (-5, 1)), ((1,), (1, 1)), ((0, 1), (1, 1)), ((0, 2), (1, 2)),
            ((-1, 1), (0, 1)), ((-1, 2), (-1, 2)), ((-2, 1), (-1, 1)), ((2, 1), (3, 1)), ((1, 1, 1), (3, 2)),
            ((0, 1, 1), (1, 2)), ((1, 2, 3, 4), (43, 30)), ((1, 2, 3, 3, 1), (43, 30)), ((3, 7, 16), (355, 113)),
            ((-4, 1, 6, 16), (-355, 113)), ((FAR,), (FAR, 1)), ((-FAR, 1), (1 - FAR, 1)), ((0, FAR), (1, FAR)),
        ):
            with self.subTest(row=row):
                self.assertEqual(fraction_of(row), fraction)

    def test_all_small_tuples(self):
        for row in small_tuples():
            self.check(row)

    def test_each_row_tells_a_fraction_of_its_own(self):
        rows = [row for row in small_tuples() if len(row) == 1 or row[-1] > 1]
        self.assertEqual(len(set([fraction_of(row) for row in rows])), len(rows))

    def test_great_parts(self):
        chance = random.Random(5)
        for turn in range(500):
            first = chance.randint(-FAR, FAR)
            others = [chance.randint(1, 10 ** chance.randint(0, 30)) for place in range(chance.randint(0, 40))]
            self.check((first,) + tuple(others))
            self.check((first,) + tuple(others) + (1,))

    def test_long_ones(self):
        chance = random.Random(6)
        for first in (-3, 0, 3):
            for last in (1, 2, 9):
                others = tuple([chance.randint(1, 9) for place in range(5000)])
                row = (first,) + others + (last,)
                # From first to last, the other way round than by the definition.
                before = (1, 0)
                here = (first, 1)
                for part in row[1:]:
                    here, before = (part * here[0] + before[0], part * here[1] + before[1]), here
                # assertTrue, since numbers this long can't be written out on a failure.
                self.assertTrue(fraction_of(row) == here)
                self.assertTrue(row_of(fraction_of(row)) == with_last_one_drawn_in(row))

    def refused(self, row):
        for taken in (NoNumber, RowError, ValueError):
            with self.assertRaises(taken) as caught:
                fraction_of(row)
            self.assertIs(type(caught.exception), NoNumber)

    def test_empty_tuple(self):
        self.refused(())

    def test_part_of_zero_or_below_behind_the_first(self):
        for row in (
            (0, 0), (1, 0), (1, -1), (0, -1), (-1, 0), (-1, -1), (1, -FAR), (5, 0, 2), (5, -1, 2), (5, 2, 0),
            (5, 2, -2), (1, 0, 0), (1, 2, 0, 3), (1, 2, -3, 4), (1, 2, 3, 0), (0, 0, 0, 0), (1, 0, -1, 2),
            (2, 1, 0), (2, 0, 1),
        ):
            with self.subTest(row=row):
                self.refused(row)

    def test_one_wrong_part_anywhere_in_a_long_row(self):
        for place in (1, 2, 1000, 1999, 2000):
            for wrong in (0, -1, -10 ** 5000):
                row = [3] * 2001
                row[place] = wrong
                with self.subTest(place=place):
                    self.refused(tuple(row))

    def test_a_first_part_of_zero_or_below_is_not_refused(self):
        for first in (0, -1, -2, -FAR):
            for others in ((), (1,), (2,), (1, 1), (3, 1, 4)):
                self.check((first,) + others)


if __name__ == "__main__":
    unittest.main()
