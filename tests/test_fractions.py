"""[1.1] is_fraction, lowest, least_square; [0.4] what a fraction is; [0.3] kinds, nothing changed, told again."""

import copy
import inspect
import math
import random
import unittest
from fractions import Fraction

from rootrow.errors import NoNumber, RowError
from rootrow.fractions import is_fraction, least_square, lowest

FAR = 10 ** 45


def is_plain_pair(thing):
    return type(thing) is tuple and [type(part) for part in thing] == [int, int]


class Interface(unittest.TestCase):
    def test_arguments(self):
        for function, names in ((is_fraction, ["thing"]), (lowest, ["upper", "lower"]), (least_square, ["n"])):
            with self.subTest(function=function.__name__):
                self.assertEqual(list(inspect.signature(function).parameters), names)

    def test_arguments_by_name(self):
        self.assertIs(is_fraction(thing=(1, 2)), True)
        self.assertEqual(lowest(upper=4, lower=6), (2, 3))
        self.assertEqual(least_square(n=10), 3)


class Lowest(unittest.TestCase):
    def check(self, upper, lower):
        told = lowest(upper, lower)
        self.assertTrue(is_plain_pair(told), (upper, lower, told))
        self.assertGreaterEqual(told[1], 1)
        self.assertEqual(math.gcd(told[0], told[1]), 1)
        self.assertEqual(told[0] * lower, told[1] * upper)
        self.assertIs(is_fraction(told), True)
        self.assertEqual(lowest(upper, lower), told)

    def test_by_hand(self):
        for upper, lower, told in (
            (1, 2, (1, 2)), (2, 4, (1, 2)), (6, 3, (2, 1)), (7, 7, (1, 1)), (1000, 999, (1000, 999)),
            (-1, 2, (-1, 2)), (1, -2, (-1, 2)), (-1, -2, (1, 2)), (-6, 4, (-3, 2)), (6, -4, (-3, 2)),
            (-6, -4, (3, 2)), (-1000, 1000, (-1, 1)), (1000, -1000, (-1, 1)), (-1000, -1000, (1, 1)),
            (5, 1, (5, 1)), (5, -1, (-5, 1)), (-5, -1, (5, 1)),
        ):
            with self.subTest(upper=upper, lower=lower):
                self.assertEqual(lowest(upper, lower), told)

    def test_upper_zero(self):
        for lower in (1, 2, 999, 1000, FAR, -1, -2, -999, -1000, -FAR):
            with self.subTest(lower=lower):
                self.assertEqual(lowest(0, lower), (0, 1))
                self.assertTrue(is_plain_pair(lowest(0, lower)))

    def test_all_small_ones(self):
        for upper in range(-40, 41):
            for lower in range(-40, 41):
                if lower != 0:
                    self.check(upper, lower)

    def test_up_to_a_thousand(self):
        chance = random.Random(1)
        for upper in (-1000, -999, -1, 0, 1, 999, 1000):
            for lower in (-1000, -999, -1, 1, 999, 1000):
                self.check(upper, lower)
        for turn in range(20000):
            self.check(chance.randint(-1000, 1000), chance.choice((-1, 1)) * chance.randint(1, 1000))

    def test_far_beyond(self):
        chance = random.Random(2)
        for turn in range(2000):
            common = chance.randint(1, 10 ** chance.randint(0, 30))
            upper = common * chance.randint(-FAR, FAR)
            lower = common * chance.choice((-1, 1)) * chance.randint(1, FAR)
            self.check(upper, lower)
            told = Fraction(upper, lower)
            self.assertEqual(lowest(upper, lower), (told.numerator, told.denominator))

    def test_nothing_divided_by_zero(self):
        for upper in (0, 1, -1, 2, 1000, -1000, FAR, -FAR, 10 ** 5000):
            for taken in (NoNumber, RowError, ValueError):
                # No number is shown on a failure: one of them is too long to be written out.
                with self.subTest(length=upper.bit_length(), taken=taken):
                    with self.assertRaises(taken) as caught:
                        lowest(upper, 0)
                    self.assertIs(type(caught.exception), NoNumber)


class IsFraction(unittest.TestCase):
    def all_told(self, things, answer):
        for thing in things:
            with self.subTest(thing=thing):
                self.assertIs(is_fraction(thing), answer)
                self.assertIs(is_fraction(thing), answer)

    def test_fractions(self):
        self.all_told((
            (0, 1), (1, 1), (-1, 1), (1, 2), (-1, 2), (7, 3), (-7, 3), (1000, 999), (-999, 1000), (5, 1), (-5, 1),
            (FAR, 1), (-FAR, 1), (1, FAR), (FAR + 1, FAR), (-FAR - 1, FAR),
        ), True)

    def test_common_divisor(self):
        self.all_told((
            (0, 2), (0, 7), (0, FAR), (2, 2), (2, 4), (-2, 4), (4, 2), (-4, 2), (6, 9), (-6, 9), (999, 999),
            (FAR, FAR), (3 * FAR, 3), (3 * FAR + 3, 3 * FAR), (-FAR, 2 * FAR),
        ), False)

    def test_lower_number_zero_or_below(self):
        self.all_told((
            (0, 0), (1, 0), (-1, 0), (5, 0), (FAR, 0), (0, -1), (1, -1), (-1, -1), (1, -2), (-1, -2), (2, -4),
            (1, -FAR),
        ), False)

    def test_truths_within(self):
        self.all_told((
            (True, 1), (True, 2), (False, 1), (1, True), (0, True), (-3, True), (True, True), (False, True),
            (1, False), (False, False),
        ), False)

    def test_lists(self):
        self.all_told(([], [1], [1, 2], [0, 1], [(1, 2)], [1, 2, 3], [True, None], [[1, 2], [3, 4]]), False)

    def test_other_lengths(self):
        self.all_told(((), (1,), (0,), (1, 2, 3), (1, 2, 1), (1, 1, 1), (1, 2, 3, 4), (1, -3, 1, 1)), False)

    def test_other_things_within(self):
        self.all_told((
            ("1", 2), (1, "2"), ("1", "2"), ("", ""), (None, 1), (1, None), (None, None), ((1, 2), 1), (1, (1, 2)),
            ((1, 2), (1, 2)), ((), 1), (1, ()), ([1], 2), (1, [2]), ([], []),
        ), False)

    def test_things_that_are_no_tuples(self):
        self.all_told((0, 1, -1, 2, FAR, True, False, None, "", "1", "12", "1/2", "(1, 2)"), False)

    def test_all_small_pairs(self):
        for upper in range(-30, 31):
            for lower in range(-30, 31):
                self.assertIs(is_fraction((upper, lower)), lower > 0 and math.gcd(upper, lower) == 1)

    def test_what_is_handed_in_stays(self):
        for thing in ([1, 2], [], (1, [2, 3]), ([4, 6], 1), [["a"], None], [True, (2, 4)]):
            before = copy.deepcopy(thing)
            is_fraction(thing)
            self.assertEqual(thing, before)


class LeastSquare(unittest.TestCase):
    def check(self, n):
        told = least_square(n)
        self.assertIs(type(told), int)
        self.assertGreaterEqual(told, 0)
        self.assertLessEqual(told * told, n)
        self.assertGreater((told + 1) * (told + 1), n)
        self.assertEqual(least_square(n), told)

    def test_by_hand(self):
        told = [least_square(n) for n in range(18)]
        self.assertEqual(told, [0, 1, 1, 1, 2, 2, 2, 2, 2, 3, 3, 3, 3, 3, 3, 3, 4, 4])

    def test_zero_and_one_are_whole_numbers(self):
        self.check(0)
        self.check(1)

    def test_from_zero_on(self):
        for n in range(20000):
            self.check(n)

    def check_round(self, root):
        self.assertEqual(least_square(root * root - 1), root - 1)
        self.assertEqual(least_square(root * root), root)
        self.assertEqual(least_square(root * root + 1), root)

    def test_round_squares(self):
        for root in range(2, 3000):
            self.check_round(root)

    def test_round_powers_of_two(self):
        for exponent in range(1, 400):
            self.check_round(2 ** exponent)
            self.check_round(2 ** exponent + 1)
            self.check(2 ** exponent - 1)
            self.check(2 ** exponent)
            self.check(2 ** exponent + 1)

    def test_forty_figures_and_more(self):
        chance = random.Random(3)
        for figures in (20, 21, 30, 40, 60, 100, 300):
            for turn in range(50):
                root = chance.randint(10 ** figures, 10 ** (figures + 1))
                self.check_round(root)
                n = chance.randint(root, root * root)
                self.check(n)
                self.assertEqual(least_square(n), math.isqrt(n))


if __name__ == "__main__":
    unittest.main()
