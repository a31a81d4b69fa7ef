"""[2.2] simplest, [2.3] nearest, [2.4] between; [0.2] (b) and (c); [0.3] kinds, told again."""

import inspect
import itertools
import math
import random
import unittest
from fractions import Fraction

from by_hand import (
    close_value, floor_times, fraction_by_chance, mirrored_by_hand, order_by_hand, pair, root_beside, root_by_chance,
    side_of, small_fractions, small_roots,
)
from rootrow.errors import NoNumber, RowError
from rootrow.nearness import between, nearest, simplest

FAR = 10 ** 45
ROOT_OF_TWO = (1, 0, -2, 1)
GOLDEN = (1, -1, -1, 1)


def number_by_chance(chance, bound, root_bound):
    if chance.randint(0, 1) == 0:
        return fraction_by_chance(chance, bound)
    return root_by_chance(chance, root_bound)


def lies_between(value, low, high):
    return side_of(low, value) < 0 and side_of(high, value) > 0


def simplest_by_hand(low, high):
    lower = 0
    while True:
        lower += 1
        first = floor_times(low, lower) + 1
        # The greatest upper number less than high, as the least greater one of what is mirrored.
        last = -floor_times(mirrored_by_hand(high), lower) - 1
        if first <= last:
            return (min(max(0, first), last), lower)


class Interface(unittest.TestCase):
    def test_arguments(self):
        for function, names in (
            (simplest, ["low", "high"]), (nearest, ["number", "most"]), (between, ["low", "high", "most"]),
        ):
            with self.subTest(function=function.__name__):
                self.assertEqual(list(inspect.signature(function).parameters), names)

    def test_arguments_by_name(self):
        self.assertEqual(simplest(low=(1, 3), high=(1, 2)), (2, 5))
        self.assertEqual(nearest(number=ROOT_OF_TWO, most=5), (7, 5))
        self.assertEqual(between(low=(0, 1), high=(1, 1), most=2), ((0, 1), (1, 2), (1, 1)))


class Told(unittest.TestCase):
    def is_fraction_by_hand(self, thing):
        self.assertIs(type(thing), tuple)
        self.assertEqual([type(part) for part in thing], [int, int])
        self.assertGreaterEqual(thing[1], 1)
        self.assertEqual(math.gcd(*thing), 1)


class Simplest(Told):
    def told(self, low, high):
        answer = simplest(low, high)
        self.is_fraction_by_hand(answer)
        self.assertTrue(lies_between(Fraction(*answer), low, high), (low, high, answer))
        self.assertEqual(simplest(low, high), answer)
        return answer

    def refused(self, low, high):
        for taken in (NoNumber, RowError, ValueError):
            with self.assertRaises(taken) as caught:
                simplest(low, high)
            self.assertIs(type(caught.exception), NoNumber)

    def check(self, one, other):
        order = order_by_hand(one, other)
        if order == 0:
            self.refused(one, other)
            return
        low, high = (one, other) if order < 0 else (other, one)
        self.assertEqual(self.told(low, high), simplest_by_hand(low, high), (low, high))
        self.refused(high, low)

    def check_close(self, low, high):
        # All fractions with a lesser lower number lie beyond those two that the told one is the middle of.
        answer = self.told(low, high)
        upper, lower = answer
        if lower == 1:
            beside = upper - (upper > 0) + (upper < 0)
            self.assertTrue(upper == 0 or not lies_between(Fraction(beside), low, high), (low, high))
            return
        below = pow(upper, -1, lower)
        above = lower - below
        self.assertFalse(lies_between(Fraction((upper * below - 1) // lower, below), low, high), (low, high))
        self.assertFalse(lies_between(Fraction((upper * above + 1) // lower, above), low, high), (low, high))

    def test_by_hand(self):
        for low, high, answer in (
            ((1, 3), (1, 2), (2, 5)), ((-1, 2), (-1, 3), (-2, 5)), ((0, 1), (1, 1), (1, 2)),
            ((-1, 1), (0, 1), (-1, 2)), ((-1, 9), (1, 9), (0, 1)), ((-5, 1), (7, 1), (0, 1)),
            ((5, 2), (99, 1), (3, 1)), ((-99, 1), (-5, 2), (-3, 1)), ((2, 1), (99, 1), (3, 1)),
            ((-99, 1), (-2, 1), (-3, 1)), ((0, 1), (1, 9), (1, 10)), ((0, 1), (9, 1), (1, 1)),
            ((-1, 9), (0, 1), (-1, 10)), ((2, 1), (3, 1), (5, 2)), ((-3, 1), (-2, 1), (-5, 2)),
            ((3, 1), (22, 7), (25, 8)), ((31, 10), (16, 5), (19, 6)),
            ((314159, 100000), (3141593, 1000000), (355, 113)), (ROOT_OF_TWO, (3, 2), (10, 7)),
            ((7, 5), ROOT_OF_TWO, (24, 17)), ((1, 0, -2, 0), (-7, 5), (-24, 17)), (ROOT_OF_TWO, (1, 0, -3, 1), (3, 2)),
            ((1, 0, -2, 0), ROOT_OF_TWO, (0, 1)), (ROOT_OF_TWO, GOLDEN, (3, 2)), ((0, 1), (FAR, 1), (1, 1)),
            ((0, 1), (1, FAR), (1, FAR + 1)), ((-1, FAR), (1, FAR), (0, 1)),
        ):
            with self.subTest(low=low, high=high):
                self.assertEqual(simplest(low, high), answer)

    def test_all_pairs_of_small_fractions(self):
        for one, other in itertools.product(small_fractions(5), repeat=2):
            self.check(one, other)

    def test_all_pairs_of_small_roots_and_fractions(self):
        for one, other in itertools.product(small_roots(2) + small_fractions(2), small_roots(2)):
            self.check(one, other)

    def test_fractions_of_numbers_to_thirty(self):
        chance = random.Random(61)
        for turn in range(2000):
            self.check(fraction_by_chance(chance, 30), fraction_by_chance(chance, 30))

    def test_roots_of_numbers_to_thirty(self):
        chance = random.Random(62)
        for turn in range(1500):
            self.check(root_by_chance(chance, 30), number_by_chance(chance, 30, 30))

    def test_whole_numbers_between_of_one_sign_or_both(self):
        chance = random.Random(63)
        for turn in range(500):
            low = number_by_chance(chance, 30, 30)
            wide = chance.randint(2, 90)
            if len(low) == 2:
                high = pair(Fraction(*low) + wide)
            else:
                a, b, c, side = low
                high = (a, b - 2 * a * wide, a * wide * wide - b * wide + c, side)
            answer = self.told(low, high)
            self.assertEqual(answer, simplest_by_hand(low, high))
            self.assertEqual(answer[1], 1)

    def test_a_bound_of_zero(self):
        chance = random.Random(64)
        for turn in range(300):
            number = number_by_chance(chance, 30, 30)
            self.check((0, 1), number)
            self.check(number, (0, 1))

    def test_like_ones(self):
        chance = random.Random(65)
        for turn in range(200):
            number = number_by_chance(chance, 10 ** chance.randint(1, 45), 10 ** chance.randint(1, 20))
            self.refused(number, tuple(list(number)))

    def test_both_roots_of_an_equation(self):
        chance = random.Random(66)
        for turn in range(300):
            a, b, c, side = root_by_chance(chance, 30)
            self.check((a, b, c, 0), (a, b, c, 1))

    def test_fractions_far_beyond(self):
        chance = random.Random(67)
        for turn in range(1000):
            one, other = [Fraction(*fraction_by_chance(chance, 10 ** chance.randint(1, 45))) for place in range(2)]
            if one != other:
                self.check_close(pair(min(one, other)), pair(max(one, other)))
                self.refused(pair(max(one, other)), pair(min(one, other)))

    def test_fractions_close_by(self):
        chance = random.Random(68)
        for turn in range(600):
            value = Fraction(*fraction_by_chance(chance, 10 ** chance.randint(1, 30)))
            tiny = Fraction(1, chance.randint(1, 10 ** chance.randint(1, 90)))
            self.check_close(pair(value), pair(value + tiny))
            self.check_close(pair(value - tiny), pair(value))
            self.refused(pair(value + tiny), pair(value))

    def test_a_root_and_a_fraction_close_by(self):
        chance = random.Random(69)
        for turn in range(400):
            root = root_by_chance(chance, 30)
            figures = chance.randint(2, 60)
            value = close_value(root, figures)
            tiny = Fraction(1, 10 ** figures)
            self.check_close(pair(value - tiny), root)
            self.check_close(root, pair(value + tiny))
            self.refused(root, pair(value - tiny))
            self.refused(pair(value + tiny), root)

    def test_roots_close_by(self):
        chance = random.Random(70)
        for turn in range(400):
            value = Fraction(*fraction_by_chance(chance, 30))
            spread = chance.randint(1, 10 ** chance.randint(1, 40))
            near, far = root_beside(value, spread, 2, 1), root_beside(value, spread, 3, 1)
            self.check_close(near, far)
            self.refused(far, near)
            near, far = root_beside(value, spread, 2, 0), root_beside(value, spread, 3, 0)
            self.check_close(far, near)
            self.refused(near, far)
            self.check_close(near, root_beside(value, spread, 2, 1))

    def test_fractions_that_follow_one_another(self):
        # Between two that differ by least, their middle is the simplest.
        chance = random.Random(71)
        for turn in range(300):
            upper, lower = fraction_by_chance(chance, 10 ** chance.randint(1, 40))
            if lower > 1:
                behind = -pow(upper, -1, lower) % lower
                high = ((upper * behind + 1) // lower, behind)
                self.assertEqual(self.told((upper, lower), high), (upper + high[0], lower + behind))

    def test_mirrored(self):
        chance = random.Random(72)
        for turn in range(300):
            one, other = [number_by_chance(chance, 10 ** 9, 30) for place in range(2)]
            if order_by_hand(one, other) < 0:
                upper, lower = simplest(one, other)
                self.assertEqual(simplest(mirrored_by_hand(other), mirrored_by_hand(one)), (-upper, lower))

    def test_a_long_row(self):
        # Numbers of a Fibonacci row have the longest rows of their size.
        one, other = 1, 1
        for turn in range(4000):
            one, other = other, one + other
        low, high = sorted((Fraction(one + other, other), Fraction(other, one)))
        answer = simplest(pair(low), pair(high))
        self.assertTrue(answer == (low.numerator + high.numerator, low.denominator + high.denominator))


class Nearest(Told):
    def is_nearer(self, number, one, other):
        # Whether the one value is nearer than the other; neither distance is reckoned of a root, only the middle.
        if one == other:
            return False
        side = side_of(number, (one + other) / 2)
        return side < 0 if one < other else side > 0

    def is_as_near(self, number, one, other):
        return side_of(number, (one + other) / 2) == 0

    def nearest_by_hand(self, number, most):
        best = None
        for lower in range(1, most + 1):
            below = floor_times(number, lower)
            for upper in (below, below + 1):
                value = Fraction(upper, lower)
                # Rising by the lower number and then by the upper one, so only a nearer one comes in the best's place.
                if best is None or self.is_nearer(number, value, best):
                    best = value
        return pair(best)

    def told(self, number, most):
        answer = nearest(number, most)
        self.is_fraction_by_hand(answer)
        self.assertLessEqual(answer[1], most)
        self.assertEqual(nearest(number, most), answer)
        return answer

    def check(self, number, most):
        self.assertEqual(self.told(number, most), self.nearest_by_hand(number, most), (number, most))

    def test_by_hand(self):
        for number, most, answer in (
            ((1, 2), 1, (0, 1)), ((-1, 2), 1, (-1, 1)), ((3, 2), 1, (1, 1)), ((-3, 2), 1, (-2, 1)), ((1, 2), 2, (1, 2)),
            ((2, 3), 1, (1, 1)), ((1, 3), 1, (0, 1)), ((-1, 3), 1, (0, 1)), ((-2, 3), 1, (-1, 1)), ((0, 1), 1, (0, 1)),
            ((7, 1), 1, (7, 1)), ((-7, 1), 9, (-7, 1)), ((1, 4), 3, (1, 3)),
            ((1, 4), 2, (0, 1)), ((3, 4), 2, (1, 1)), ((-1, 4), 2, (0, 1)), ((-3, 4), 2, (-1, 1)), ((5, 12), 3, (1, 2)),
            ((355, 113), 112, (333, 106)), ((355, 113), 113, (355, 113)), ((355, 113), 7, (22, 7)),
            ((62831853, 20000000), 1000, (355, 113)),
            (ROOT_OF_TWO, 1, (1, 1)), (ROOT_OF_TWO, 2, (3, 2)), (ROOT_OF_TWO, 3, (4, 3)), (ROOT_OF_TWO, 5, (7, 5)),
            (ROOT_OF_TWO, 100, (140, 99)), ((1, 0, -2, 0), 100, (-140, 99)), (GOLDEN, 1, (2, 1)), (GOLDEN, 8, (13, 8)),
        ):
            with self.subTest(number=number, most=most):
                self.assertEqual(nearest(number, most), answer)

    def test_halves_with_the_bound_of_one(self):
        for n in list(range(-40, 41)) + [-FAR, FAR]:
            self.assertEqual(nearest((2 * n + 1, 2), 1), (n, 1))
            self.assertEqual(nearest((n, 1), 1), (n, 1))

    def test_all_small_fractions(self):
        for number in small_fractions(14):
            for most in range(1, 15):
                self.check(number, most)

    def test_fractions_of_numbers_to_ninety(self):
        chance = random.Random(73)
        for turn in range(2500):
            self.check(fraction_by_chance(chance, 90), chance.randint(1, 25))

    def test_small_roots(self):
        for number in small_roots(3):
            for most in (1, 2, 3, 5, 8, 12):
                self.check(number, most)

    def test_roots_of_numbers_to_thirty(self):
        chance = random.Random(74)
        for turn in range(1200):
            self.check(root_by_chance(chance, 30), chance.randint(1, 25))

    def test_bounds_beyond(self):
        chance = random.Random(75)
        for turn in range(60):
            self.check(number_by_chance(chance, 10 ** 9, 10 ** 9), chance.randint(26, 400))

    def test_fractions_within_the_bound_are_told_themselves(self):
        chance = random.Random(76)
        for turn in range(500):
            number = fraction_by_chance(chance, 10 ** chance.randint(1, 45))
            for most in (number[1], number[1] + 1, number[1] + chance.randint(0, FAR)):
                self.assertEqual(self.told(number, most), number)
            if number[1] > 1:
                self.assertNotEqual(self.told(number, number[1] - 1), number)

    def test_equally_near_ones(self):
        # Half way between two that follow one another, with the bound of the greater lower number.
        chance = random.Random(77)
        for turn in range(500):
            upper, lower = fraction_by_chance(chance, 10 ** chance.randint(1, 30))
            if lower > 1:
                behind = -pow(upper, -1, lower) % lower
                high = ((upper * behind + 1) // lower, behind)
                number = pair((Fraction(upper, lower) + Fraction(*high)) / 2)
                self.assertEqual(self.told(number, lower), high)
                self.assertEqual(self.told((-number[0], number[1]), lower), (-high[0], behind))
                low = ((upper * (lower - behind) - 1) // lower, lower - behind)
                number = pair((Fraction(upper, lower) + Fraction(*low)) / 2)
                self.assertEqual(self.told(number, lower), low)
                self.assertEqual(self.told((-number[0], number[1]), lower), (-low[0], low[1]))

    def check_far(self, number, most, value):
        # Python's own fractions know what is nearest, but tell another one of two that are equally near.
        other = value.limit_denominator(most)
        answer = Fraction(*self.told(number, most))
        self.assertTrue(answer == other or self.is_as_near(number, answer, other), (number, most))

    def test_fractions_far_beyond(self):
        chance = random.Random(78)
        for turn in range(800):
            number = fraction_by_chance(chance, 10 ** chance.randint(1, 60))
            self.check_far(number, chance.randint(1, 10 ** chance.randint(1, 60)), Fraction(*number))

    def test_roots_far_beyond(self):
        chance = random.Random(79)
        for turn in range(400):
            number = root_by_chance(chance, 10 ** chance.randint(1, 30))
            self.check_far(number, chance.randint(1, 10 ** chance.randint(1, 40)), close_value(number, 300))

    def test_roots_close_by_a_fraction(self):
        chance = random.Random(80)
        for turn in range(300):
            value = Fraction(*fraction_by_chance(chance, 90))
            spread = 10 ** chance.randint(5, 40)
            number = root_beside(value, spread, 2, turn % 2)
            self.assertEqual(self.told(number, value.denominator), pair(value))
            self.assertEqual(self.told(number, value.denominator + 9), pair(value))
            self.check(number, chance.randint(1, 25))


class Between(Told):
    def all_by_hand(self, low, high, most):
        values = []
        for lower in range(1, most + 1):
            first = -(-low[0] * lower // low[1])
            last = high[0] * lower // high[1]
            values.extend([(upper, lower) for upper in range(first, last + 1) if math.gcd(upper, lower) == 1])
        return tuple(sorted(values, key=lambda value: Fraction(*value)))

    def told(self, low, high, most):
        answer = between(low, high, most)
        self.assertIs(type(answer), tuple)
        for one in answer:
            self.is_fraction_by_hand(one)
        for one, other in zip(answer, answer[1:]):
            self.assertEqual(other[0] * one[1] - one[0] * other[1], 1)
        self.assertEqual(between(low, high, most), answer)
        return answer

    def check(self, low, high, most):
        answer = self.told(low, high, most)
        self.assertEqual(answer, self.all_by_hand(low, high, most), (low, high, most))
        rising = low[0] * high[1] <= high[0] * low[1]
        self.assertEqual(low in answer, rising and low[1] <= most)
        self.assertEqual(high in answer, rising and high[1] <= most)
        if not rising:
            self.assertEqual(answer, ())

    def test_by_hand(self):
        for low, high, most, answer in (
            ((0, 1), (1, 1), 1, ((0, 1), (1, 1))), ((0, 1), (1, 1), 3, ((0, 1), (1, 3), (1, 2), (2, 3), (1, 1))),
            ((-1, 1), (0, 1), 2, ((-1, 1), (-1, 2), (0, 1))), ((1, 3), (1, 2), 4, ((1, 3), (1, 2))),
            ((1, 3), (1, 2), 5, ((1, 3), (2, 5), (1, 2))), ((1, 3), (1, 3), 3, ((1, 3),)), ((1, 3), (1, 3), 2, ()),
            ((1, 2), (1, 3), 9, ()), ((2, 7), (3, 7), 6, ((1, 3), (2, 5))), ((2, 7), (3, 7), 2, ()),
            ((-5, 2), (5, 2), 1, ((-2, 1), (-1, 1), (0, 1), (1, 1), (2, 1))), ((3, 1), (3, 1), 1, ((3, 1),)),
            ((0, 1), (1, FAR), 9, ((0, 1),)), ((-1, FAR), (1, FAR), 9, ((0, 1),)), ((1, FAR), (1, FAR), 9, ()),
            ((FAR, 1), (FAR + 1, 1), 2, ((FAR, 1), (2 * FAR + 1, 2), (FAR + 1, 1))),
            ((1, FAR), (1, FAR), FAR, ((1, FAR),)), ((1, FAR), (1, FAR - 1), FAR, ((1, FAR), (1, FAR - 1))),
        ):
            with self.subTest(low=low, high=high, most=most):
                self.assertEqual(self.told(low, high, most), answer)

    def test_all_pairs_of_small_fractions(self):
        for low, high in itertools.product(small_fractions(4), repeat=2):
            for most in (1, 2, 3, 4, 5):
                self.check(low, high, most)

    def test_fractions_of_numbers_to_twelve(self):
        chance = random.Random(81)
        for turn in range(1500):
            low = fraction_by_chance(chance, 12)
            self.check(low, fraction_by_chance(chance, 12), chance.randint(1, 9))
            self.check(low, tuple(list(low)), chance.randint(1, 12))

    def test_numbers_beyond(self):
        chance = random.Random(82)
        for turn in range(300):
            low = Fraction(*fraction_by_chance(chance, 10 ** chance.randint(1, 40)))
            high = low + Fraction(chance.randint(-9, 90), 10 ** chance.randint(1, 9))
            self.check(pair(low), pair(high), chance.randint(1, 30))

    def test_so_many_as_the_numbers_without_a_common_divisor(self):
        for most in (1, 2, 7, 50, 120):
            count = sum([math.gcd(upper, lower) == 1 for lower in range(1, most + 1) for upper in range(lower)])
            self.assertEqual(len(self.told((0, 1), (1, 1), most)), count + 1)
            self.assertEqual(len(self.told((-2, 1), (1, 1), most)), 3 * count + 1)

    def test_a_great_bound(self):
        chance = random.Random(83)
        for turn in range(100):
            most = chance.randint(10 ** 9, 10 ** 12)
            low = Fraction(chance.randint(-10 ** 9, 10 ** 9), chance.randint(1, 10 ** 9))
            answer = self.told(pair(low), pair(low + Fraction(1, most * low.denominator)), most)
            self.assertEqual(answer[0], pair(low))
            # What follows lies at least so far off, and the lower number can't be above the bound.
            self.assertLessEqual(len(answer), 2)
            self.assertEqual(self.told(pair(low), pair(low - Fraction(1, most)), most), ())

    def test_a_bound_that_no_lower_number_keeps_to(self):
        self.assertEqual(between((0, 1), (1, 1), 0), ())
        self.assertEqual(between((-3, 1), (5, 2), -4), ())


if __name__ == "__main__":
    unittest.main()
