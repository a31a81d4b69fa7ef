"""[2.1] compare; [0.2] (d) the order of fractions and roots by squares; [0.3] kinds, told again."""

import inspect
import itertools
import random
import unittest
from fractions import Fraction

from by_hand import (
    close_value, fraction_by_chance, has_roots, heart, order_by_hand, pair, root_beside, root_by_chance, root_by_hand,
    side_of, small_fractions, small_roots,
)
from rootrow.fractions import lowest
from rootrow.ordering import compare
from rootrow.roots import other_root

FAR = 10 ** 45


def small_numbers(bound):
    return small_fractions(bound) + small_roots(bound)


class Compare(unittest.TestCase):
    def told(self, one, other, answer):
        for turn in range(2):
            self.assertIs(type(compare(one, other)), int)
            self.assertEqual(compare(one, other), answer, (one, other))
            self.assertIs(type(compare(other, one)), int)
            self.assertEqual(compare(other, one), -answer, (other, one))

    def check(self, one, other):
        self.told(one, other, order_by_hand(one, other))

    def test_arguments(self):
        self.assertEqual(list(inspect.signature(compare).parameters), ["one", "other"])
        self.assertEqual(compare(one=(1, 2), other=(1, 3)), 1)

    def test_by_hand(self):
        for one, other, answer in (
            ((1, 2), (1, 2), 0), ((1, 2), (2, 3), -1), ((-1, 2), (-2, 3), 1), ((0, 1), (-1, 9), 1),
            ((3, 1), (3, 1), 0), ((0, 1), (0, 1), 0), ((1, 0, -2, 1), (1, 0, -2, 1), 0),
            ((1, 0, -2, 0), (1, 0, -2, 0), 0), ((1, 0, -2, 1), (1, 0, -2, 0), 1), ((1, 0, -2, 1), (1, 0, -3, 1), -1),
            ((1, 0, -2, 0), (1, 0, -3, 0), 1), ((1, 0, -2, 1), (1, 0, -8, 1), -1),
            ((1, 0, -2, 1), (7, 5), 1), ((1, 0, -2, 1), (3, 2), -1), ((1, 0, -2, 0), (-7, 5), -1),
            ((1, 0, -2, 0), (-3, 2), 1), ((1, 0, -2, 1), (0, 1), 1), ((1, 0, -2, 0), (0, 1), -1),
            ((1, -1, -1, 1), (8, 5), 1), ((1, -1, -1, 1), (13, 8), -1), ((1, 0, -2, 1), (1, -1, -1, 1), -1),
            ((1, -2, -1, 1), (1, 0, -6, 1), -1), ((1, 0, -6, 1), (1, -2, -1, 0), 1),
            ((1, -10, 23, 0), (1, 0, -13, 1), -1), ((1, 4, 1, 1), (1, 4, 2, 1), 1), ((1, 4, 1, 0), (1, 4, 2, 0), -1),
            ((1, -4, 1, 0), (1, 0, -2, 0), 1),
        ):
            with self.subTest(one=one, other=other):
                self.told(one, other, answer)

    def test_all_small_numbers_by_a_rising_row(self):
        # Sorted by values of so many figures that none of these, if different, falls on another.
        numbers = small_numbers(3)
        values = {number: Fraction(*number) if len(number) == 2 else close_value(number, 40) for number in numbers}
        rising = sorted(numbers, key=values.get)
        for place, one in enumerate(rising):
            for other_place, other in enumerate(rising):
                self.assertEqual(compare(one, other), (place > other_place) - (place < other_place), (one, other))

    def test_all_pairs_of_least_numbers(self):
        for one, other in itertools.product(small_numbers(2), repeat=2):
            self.check(one, other)

    def test_fractions_with_fractions(self):
        chance = random.Random(41)
        for turn in range(2000):
            bound = 10 ** chance.randint(1, 30)
            one = fraction_by_chance(chance, bound)
            other = fraction_by_chance(chance, bound)
            self.told(one, other, side_of(one, Fraction(*other)))
            self.told(one, one, 0)

    def test_fractions_that_differ_by_least(self):
        chance = random.Random(42)
        for turn in range(500):
            lower = chance.randint(2, 10 ** chance.randint(1, 20))
            upper = chance.randint(-10 ** 20, 10 ** 20)
            one = lowest(upper, lower)
            if one[1] == 1:
                continue
            # The one behind it: upper and lower of both, crosswise multiplied, differ by 1.
            behind_lower = -pow(one[0], -1, one[1]) % one[1]
            behind = ((one[0] * behind_lower + 1) // one[1], behind_lower)
            self.assertEqual(behind[0] * one[1] - one[0] * behind[1], 1)
            self.told(one, behind, -1)
            self.told((-one[0], one[1]), (-behind[0], behind[1]), 1)

    def test_whole_ones(self):
        for one in (-FAR, -2, -1, 0, 1, 2, FAR):
            for other in (-FAR, -2, -1, 0, 1, 2, FAR):
                self.told((one, 1), (other, 1), (one > other) - (one < other))

    def test_fractions_with_roots(self):
        chance = random.Random(43)
        for turn in range(2000):
            root = root_by_chance(chance, 10 ** chance.randint(1, 30))
            fraction = fraction_by_chance(chance, 10 ** chance.randint(1, 30))
            self.told(root, fraction, side_of(root, Fraction(*fraction)))
            self.told(root, pair(Fraction(-root[1], 2 * root[0])), 1 if root[3] == 1 else -1)

    def test_a_root_and_a_fraction_close_by(self):
        chance = random.Random(44)
        for turn in range(500):
            root = root_by_chance(chance, 10 ** chance.randint(1, 20))
            figures = chance.randint(10, 120)
            value = close_value(root, figures)
            tiny = Fraction(1, 10 ** figures)
            self.told(root, pair(value), side_of(root, value))
            self.told(root, pair(value - tiny), 1)
            self.told(root, pair(value + tiny), -1)

    def test_a_root_and_the_fractions_of_its_row(self):
        # Those of the root of 2 lie below and above it in turn, nearer and nearer.
        upper, lower = 1, 1
        for turn in range(300):
            answer = 1 if turn % 2 == 0 else -1
            self.told((1, 0, -2, 1), (upper, lower), answer)
            self.told((1, 0, -2, 0), (-upper, lower), -answer)
            upper, lower = upper + 2 * lower, upper + lower

    def test_roots_with_roots(self):
        chance = random.Random(45)
        for turn in range(1500):
            bound = 10 ** chance.randint(1, 12)
            self.check(root_by_chance(chance, bound), root_by_chance(chance, bound))

    def test_roots_of_numbers_to_forty(self):
        chance = random.Random(46)
        for turn in range(1500):
            self.check(root_by_chance(chance, 40), root_by_chance(chance, 40))

    def test_like_ones_and_both_of_an_equation(self):
        chance = random.Random(47)
        for turn in range(500):
            root = root_by_chance(chance, 10 ** chance.randint(1, 45))
            self.told(root, tuple(list(root)), 0)
            self.told(root, other_root(root), 1 if root[3] == 1 else -1)

    def test_roots_of_one_heart(self):
        chance = random.Random(48)
        for turn in range(500):
            n = chance.choice((2, 3, 5, 6, 7, 8, 12, 18, 50))
            values = [Fraction(chance.randint(-9, 9), chance.randint(1, 9)) for place in range(2)]
            spreads = [chance.randint(1, 9) for place in range(2)]
            sides = [chance.randint(0, 1) for place in range(2)]
            one = root_beside(values[0], spreads[0], n, sides[0])
            self.check(one, root_beside(values[1], spreads[1], n, sides[1]))
            # With a like spread and side, both are ordered as their values are.
            like = root_beside(values[1], spreads[0], n, sides[0])
            self.told(one, like, (values[0] > values[1]) - (values[0] < values[1]))

    def test_two_roots_close_by_each_other(self):
        chance = random.Random(49)
        for turn in range(120):
            root = root_by_chance(chance, 10 ** chance.randint(1, 10))
            figures = chance.randint(10, 60)
            tiny = 10 ** figures
            value = close_value(root, figures)
            for n in (2, 3, heart(*root[:3])):
                self.told(root, root_beside(value - Fraction(1, tiny), tiny * 10 * n, n, 1), 1)
                self.told(root, root_beside(value + Fraction(1, tiny), tiny * 10 * n, n, 0), -1)
                self.check(root, root_beside(value, tiny, n, turn % 2))

    def test_roots_of_numbers_that_differ_by_one(self):
        chance = random.Random(50)
        for turn in range(200):
            a, b, c, side = root_by_chance(chance, 10 ** chance.randint(1, 20))
            for change in ((1, 0, 0), (0, 1, 0), (0, 0, 1)):
                numbers = (a + change[0], b + change[1], c + change[2])
                if has_roots(*numbers):
                    self.check((a, b, c, side), root_by_hand(*numbers, side))
        for n in (10 ** 40 + 1, 10 ** 60 + 7):
            self.told((1, 0, -n, 1), (1, 0, -n - 1, 1), -1)
            self.told((1, 0, -n, 0), (1, 0, -n - 1, 0), 1)

    def test_a_whole_number_and_a_root_that_come_to_all_but_another_root(self):
        # n and the root of n * n + 1 together, beside the root of 4 * n * n + 2, which is greater by next to nothing.
        for n in (1, 10, 1000, 10 ** 10, 10 ** 20):
            one = (1, -2 * n, -1, 1)
            other = (1, 0, -4 * n * n - 2, 1)
            self.told(one, pair(2 * n + Fraction(1, 2 * n)), -1)
            self.told(one, other, -1)
            self.told(one, other, order_by_hand(one, other))

    def test_signs_turned_about(self):
        chance = random.Random(51)
        for turn in range(300):
            numbers = [
                root_by_chance(chance, 10 ** 6), fraction_by_chance(chance, 10 ** 6), root_by_chance(chance, 99),
            ]
            below = [
                (-number[0], number[1]) if len(number) == 2 else (number[0], -number[1], number[2], 1 - number[3])
                for number in numbers
            ]
            for one, other in itertools.product(range(3), repeat=2):
                self.assertEqual(compare(numbers[one], numbers[other]), compare(below[other], below[one]))


if __name__ == "__main__":
    unittest.main()
