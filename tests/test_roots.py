"""[0.5], [1.1] is_root; [3.1] root_of, other_root; [3.2] part_of, turned; [0.3] kinds, nothing changed, told again."""

import copy
import inspect
import itertools
import math
import random
import unittest
from fractions import Fraction

from by_hand import close_value, has_roots, heart, is_greater, root_by_chance, root_by_hand, small_roots
from rootrow.errors import NoNumber, RowError
from rootrow.fractions import lowest
from rootrow.roots import is_root, other_root, part_of, root_of, turned

FAR = 10 ** 45
GOLDEN = (1, -1, -1, 1)


class Interface(unittest.TestCase):
    def test_arguments(self):
        for function, names in (
            (is_root, ["thing"]), (root_of, ["a", "b", "c", "side"]), (other_root, ["root"]), (part_of, ["number"]),
            (turned, ["root", "n"]),
        ):
            with self.subTest(function=function.__name__):
                self.assertEqual(list(inspect.signature(function).parameters), names)

    def test_arguments_by_name(self):
        self.assertIs(is_root(thing=GOLDEN), True)
        self.assertEqual(root_of(a=2, b=-2, c=-2, side=1), GOLDEN)
        self.assertEqual(other_root(root=GOLDEN), (1, -1, -1, 0))
        self.assertEqual(part_of(number=GOLDEN), 1)
        self.assertEqual(turned(root=GOLDEN, n=1), GOLDEN)


class IsRoot(unittest.TestCase):
    def all_told(self, things, answer):
        for thing in things:
            with self.subTest(thing=thing):
                self.assertIs(is_root(thing), answer)
                self.assertIs(is_root(thing), answer)

    def test_roots(self):
        self.all_told((
            (1, 0, -2, 1), (1, 0, -2, 0), (1, -1, -1, 1), (1, -1, -1, 0), (1, 4, 1, 0), (2, 0, -1, 1), (2, 4, 1, 0),
            (6, 10, 1, 1), (2, 2, -1, 1), (1, FAR, 1, 1), (FAR, 1, -FAR, 0), (1, 0, -FAR, 1),
            (1, 0, -FAR * FAR - 1, 0),
        ), True)

    def test_all_small_ones(self):
        places = range(-7, 8)
        for a, b, c in itertools.product(places, places, places):
            answer = a > 0 and has_roots(a, b, c) and math.gcd(a, b, c) == 1
            for side in (-1, 0, 1, 2):
                self.assertIs(is_root((a, b, c, side)), answer and side in (0, 1), (a, b, c, side))

    def test_a_of_zero_or_below(self):
        self.all_told((
            (0, 1, 1, 1), (0, 0, 0, 0), (0, 3, -2, 1), (-1, 0, 2, 1), (-1, 1, 1, 0), (-1, 1, 1, 1), (-FAR, 1, FAR, 1),
        ), False)

    def test_common_divisor_of_all_three(self):
        self.all_told((
            (2, 0, -4, 1), (2, -2, -2, 1), (3, -3, -3, 0), (5, 20, 5, 0), (FAR, -FAR, -FAR, 1), (7, 0, -14, 0),
        ), False)

    def test_divisors_of_two_alone(self):
        self.all_told(((2, 4, 1, 1), (2, 3, -4, 1), (3, 5, -6, 0), (1, 6, 3, 0), (6, 10, -15, 1)), True)

    def test_heart_of_zero_below_or_a_square(self):
        self.all_told((
            (1, 2, 1, 1), (1, 0, 0, 0), (4, 4, 1, 1), (1, 0, 1, 1), (1, 1, 1, 0), (5, 2, 3, 1), (1, 0, -1, 1),
            (1, 0, -4, 0), (1, -3, 2, 1), (1, 1, 0, 1), (2, 3, 1, 0), (1, 0, -FAR * FAR, 1), (1, 0, FAR, 1),
            (1, FAR, 0, 0), (FAR, 0, 1, 0),
        ), False)

    def test_side(self):
        self.all_told([
            (1, 0, -2, side)
            for side in (2, -1, 3, FAR, -FAR, True, False, None, "", "1", "0", (), (1,), (0,), [], [1])
        ], False)

    def test_truths_within(self):
        self.all_told((
            (True, 0, -2, 1), (True, -1, -1, 1), (1, True, -1, 1), (1, False, -2, 1), (2, 3, True, 1),
            (1, 5, True, 0), (True, 3, True, 0), (1, 3, False, 1), (False, 1, 1, 1), (True, True, True, True),
        ), False)

    def test_lists(self):
        self.all_told((
            [1, 0, -2, 1], [1, -1, -1, 0], [], [1], [(1, 0, -2, 1)], [[1, 0, -2, 1]], [None, True, "", ()],
        ), False)

    def test_other_lengths(self):
        self.all_told((
            (), (1,), (1, 2), (1, 0, -2), (1, 0, 0, -2, 1), (1, 0, -2, 1, 1), (1, 0, -2, 1, 0), ((1, 0, -2, 1),),
        ), False)

    def test_other_things_within(self):
        for other in ("1", "", None, (), (1,), (1, 0, -2, 1), [], [1], "a"):
            for place in range(4):
                thing = [1, 3, 1, 1]
                thing[place] = other
                self.all_told([tuple(thing)], False)
            self.all_told([(other,) * 4], False)

    def test_things_that_are_no_tuples(self):
        self.all_told((0, 1, -1, 4, FAR, True, False, None, "", "1", "abcd", "1001", "(1, 0, -2, 1)"), False)

    def test_what_is_handed_in_stays(self):
        for thing in ([1, 0, -2, 1], [], (1, [2], -2, 1), ([4, 6], 1, 1, 1), [["a"], None], ([1], [0], [-2], [1])):
            before = copy.deepcopy(thing)
            is_root(thing)
            self.assertEqual(thing, before)


class RootOf(unittest.TestCase):
    def check(self, a, b, c, side):
        root = root_of(a, b, c, side)
        self.assertIs(type(root), tuple)
        self.assertEqual([type(part) for part in root], [int] * 4)
        self.assertEqual(root, root_by_hand(a, b, c, side))
        self.assertIs(is_root(root), True)
        self.assertEqual(root_of(a, b, c, side), root)

    def refused(self, a, b, c, side):
        for taken in (NoNumber, RowError, ValueError):
            with self.assertRaises(taken) as caught:
                root_of(a, b, c, side)
            self.assertIs(type(caught.exception), NoNumber)

    def test_by_hand(self):
        for numbers, root in (
            ((1, 0, -2, 1), (1, 0, -2, 1)), ((-1, 0, 2, 1), (1, 0, -2, 1)), ((-1, 0, 2, 0), (1, 0, -2, 0)),
            ((6, 0, -12, 1), (1, 0, -2, 1)), ((-6, 0, 12, 0), (1, 0, -2, 0)), ((-3, 3, 3, 1), (1, -1, -1, 1)),
            ((4, 8, 2, 0), (2, 4, 1, 0)), ((-4, -8, -2, 0), (2, 4, 1, 0)), ((2, 4, 1, 1), (2, 4, 1, 1)),
            ((6, 10, -15, 0), (6, 10, -15, 0)), ((9, 0, -18, 0), (1, 0, -2, 0)),
        ):
            with self.subTest(numbers=numbers):
                self.assertEqual(root_of(*numbers), root)

    def test_all_from_minus_to_plus_twelve(self):
        places = range(-12, 13)
        for a, b, c in itertools.product(places, places, places):
            if has_roots(a, b, c):
                self.check(a, b, c, (a + b) % 2)
                self.check(a, b, c, (a + b + 1) % 2)
            else:
                with self.assertRaises(NoNumber):
                    root_of(a, b, c, c % 2)

    def test_times_one_to_nine(self):
        chance = random.Random(21)
        for turn in range(6000):
            a, b, c = [chance.randint(-12, 12) * (turn % 9 + 1) for place in range(3)]
            for side in (0, 1):
                if has_roots(a, b, c):
                    self.check(a, b, c, side)
                else:
                    self.refused(a, b, c, side)

    def test_far_beyond(self):
        chance = random.Random(22)
        for turn in range(2000):
            common = chance.randint(1, 10 ** chance.randint(0, 30))
            a, b, c = [common * chance.randint(-FAR, FAR) for place in range(3)]
            if has_roots(a, b, c):
                self.check(a, b, c, turn % 2)
            else:
                self.refused(a, b, c, turn % 2)

    def test_a_of_zero(self):
        for b, c in ((0, 0), (1, 0), (0, 1), (3, -2), (-3, 2), (FAR, 1), (1, -FAR), (0, -FAR)):
            for side in (0, 1):
                with self.subTest(b=b, c=c, side=side):
                    self.refused(0, b, c, side)

    def test_heart_of_zero_below_or_a_square(self):
        chance = random.Random(23)
        for a, b, c in (
            (1, 2, 1), (-1, 2, -1), (1, 0, 0), (2, 4, 2), (1, 0, 1), (-1, 0, -1), (1, 1, 1), (1, 0, -1), (-1, 0, 1),
            (1, 0, -4), (1, -3, 2), (3, 0, -12), (-5, 0, 0), (1, 0, -FAR * FAR), (1, 0, FAR), (-1, 0, -FAR),
            (FAR, 0, 0), (-FAR, 2 * FAR, -FAR),
        ):
            for side in (0, 1):
                with self.subTest(a=a, b=b, c=c, side=side):
                    self.refused(a, b, c, side)
        for turn in range(500):
            # (px - q)(rx - s), whose heart is the square of ps - qr.
            p, q, r, s = [chance.choice((-1, 1)) * chance.randint(1, FAR) for place in range(4)]
            self.refused(p * r, -p * s - q * r, q * s, turn % 2)

    def test_one_beside_a_square_is_none(self):
        for n in (2, 3, 10 ** 20, FAR):
            self.check(1, 0, -n * n - 1, 1)
            self.check(1, 0, -n * n + 1, 0)
            self.refused(1, 0, -n * n, 1)

    def test_the_same_numbers_and_the_same_side(self):
        chance = random.Random(24)
        for turn in range(500):
            root = root_by_chance(chance, 30)
            times = chance.choice((-1, 1)) * chance.randint(1, 99)
            self.assertEqual(root_of(root[0] * times, root[1] * times, root[2] * times, root[3]), root)


class OtherRoot(unittest.TestCase):
    def test_by_hand(self):
        self.assertEqual(other_root((1, 0, -2, 1)), (1, 0, -2, 0))
        self.assertEqual(other_root((1, 0, -2, 0)), (1, 0, -2, 1))

    def test_the_same_but_for_the_side(self):
        chance = random.Random(25)
        for root in small_roots(5) + [root_by_chance(chance, FAR) for turn in range(200)]:
            other = other_root(root)
            self.assertIs(type(other), tuple)
            self.assertEqual([type(part) for part in other], [int] * 4)
            self.assertEqual(other, root[:3] + (1 - root[3],))
            self.assertIs(is_root(other), True)
            self.assertEqual(other_root(other), root)


class PartOf(unittest.TestCase):
    def check_root(self, root):
        part = part_of(root)
        self.assertIs(type(part), int)
        self.assertTrue(is_greater(root, part), root)
        self.assertFalse(is_greater(root, part + 1), root)
        self.assertEqual(part_of(root), part)

    def check_fraction(self, fraction):
        part = part_of(fraction)
        self.assertIs(type(part), int)
        self.assertLessEqual(part * fraction[1], fraction[0])
        self.assertGreater((part + 1) * fraction[1], fraction[0])
        self.assertEqual(part_of(fraction), part)

    def test_fractions_by_hand(self):
        for fraction, part in (
            ((0, 1), 0), ((1, 1), 1), ((-1, 1), -1), ((1, 2), 0), ((-1, 2), -1), ((7, 3), 2), ((-7, 3), -3),
            ((9, 1), 9), ((-9, 1), -9), ((FAR, 1), FAR), ((-FAR, 1), -FAR), ((1, FAR), 0), ((-1, FAR), -1),
        ):
            with self.subTest(fraction=fraction):
                self.assertEqual(part_of(fraction), part)

    def test_fractions(self):
        chance = random.Random(26)
        for upper in range(-60, 61):
            for lower in range(1, 30):
                self.check_fraction(lowest(upper, lower))
        for turn in range(500):
            self.check_fraction(lowest(chance.randint(-FAR, FAR), chance.randint(1, 10 ** chance.randint(0, 45))))

    def test_roots_by_hand(self):
        for root, part in (
            ((1, 0, -2, 1), 1), ((1, 0, -2, 0), -2), ((1, -1, -1, 1), 1), ((1, -1, -1, 0), -1), ((1, 4, 1, 1), -1),
            ((1, 4, 1, 0), -4), ((2, 0, -1, 1), 0), ((2, 0, -1, 0), -1), ((1, -4, 1, 0), 0), ((1, -4, 1, 1), 3),
            ((1, 0, -FAR * FAR - 1, 1), FAR), ((1, 0, -FAR * FAR - 1, 0), -FAR - 1),
            ((1, 0, -FAR * FAR + 1, 1), FAR - 1), ((1, 0, -FAR * FAR + 1, 0), -FAR),
        ):
            with self.subTest(root=root):
                self.assertEqual(part_of(root), part)

    def test_small_roots(self):
        for root in small_roots(8):
            self.check_root(root)

    def test_roots_of_numbers_to_forty(self):
        chance = random.Random(27)
        for turn in range(5000):
            self.check_root(root_by_chance(chance, 40))

    def test_roots_of_forty_figures_and_more(self):
        chance = random.Random(28)
        for figures in (20, 40, 60, 120):
            for turn in range(200):
                root = root_by_chance(chance, 10 ** figures)
                self.check_root(root)
                self.check_root(other_root(root))

    def test_roots_close_by_a_whole_number(self):
        chance = random.Random(29)
        for turn in range(200):
            n = chance.randint(-FAR, FAR)
            spread = chance.randint(1, 10 ** chance.randint(1, 60))
            # (x - n) squared is 2 divided by the square of the spread.
            square = spread * spread
            root = root_by_hand(square, -2 * n * square, n * n * square - 2, turn % 2)
            self.check_root(root)
            if spread > 1:
                self.assertEqual(part_of(root), n if turn % 2 == 1 else n - 1)

    def test_a_great_lower_number(self):
        for b in (-1, 0, 1):
            self.assertEqual(part_of((FAR, b, -1, 1)), 0)
            self.assertEqual(part_of((FAR, b, -1, 0)), -1)


class Turned(unittest.TestCase):
    def check(self, root, n, values):
        told = turned(root, n)
        self.assertIs(type(told), tuple)
        self.assertEqual([type(part) for part in told], [int] * 4)
        self.assertIs(is_root(told), True)
        self.assertEqual(turned(root, n), told)
        for value in values:
            self.assertEqual(is_greater(told, value), self.one_divided_is_greater(root, n, value), (root, n, value))
        # The other root leads to the other one of both.
        self.assertEqual(turned(other_root(root), n), other_root(told))

    def one_divided_is_greater(self, root, n, value):
        above = is_greater(root, n)
        if value == 0:
            return above
        if value > 0:
            return above and not is_greater(root, n + 1 / Fraction(value))
        return above or not is_greater(root, n + 1 / Fraction(value))

    def test_by_hand(self):
        for root, n, told in (
            ((1, 0, -2, 1), 1, (1, -2, -1, 1)), ((1, -2, -1, 1), 2, (1, -2, -1, 1)),
            ((1, 0, -2, 1), 0, (2, 0, -1, 1)), ((1, 0, -2, 0), 0, (2, 0, -1, 0)),
            ((1, 0, -2, 1), 2, (2, 4, 1, 0)), ((1, 0, -2, 1), -2, (2, -4, 1, 0)), ((1, 0, -2, 0), -2, (2, -4, 1, 1)),
            ((1, -1, -1, 1), 1, (1, -1, -1, 1)), ((1, -1, -1, 0), 1, (1, -1, -1, 0)),
        ):
            with self.subTest(root=root, n=n):
                self.assertEqual(turned(root, n), told)

    def near(self, root, n):
        # Fractions on both sides of where 1 divided by the root less n lies, as near as a scale allows.
        place = close_value(root, 200) - n
        return [1 / (place - Fraction(1, 10 ** 150)), 1 / place, 1 / (place + Fraction(1, 10 ** 150))]

    def values_for(self, chance, root, n):
        far = [Fraction(chance.randint(-30, 30), chance.randint(1, 30)) for turn in range(4)]
        return far + [0] + self.near(root, n)

    def test_small_roots(self):
        chance = random.Random(30)
        for root in small_roots(3):
            for n in range(-9, 10):
                self.check(root, n, self.values_for(chance, root, n))

    def test_roots_by_chance(self):
        chance = random.Random(31)
        for turn in range(600):
            root = root_by_chance(chance, 10 ** chance.randint(1, 20))
            for n in (chance.randint(-9, 9), part_of(root), part_of(root) + 1, chance.randint(-FAR, FAR)):
                self.check(root, n, self.values_for(chance, root, n))

    def test_by_its_own_part_it_is_greater_than_one(self):
        chance = random.Random(32)
        roots = small_roots(6) + [root_by_chance(chance, 10 ** chance.randint(1, 45)) for turn in range(500)]
        for root in roots:
            told = turned(root, part_of(root))
            self.assertIs(is_root(told), True)
            self.assertTrue(is_greater(told, 1), root)

    def test_there_and_back(self):
        chance = random.Random(33)
        for turn in range(500):
            root = root_by_chance(chance, 10 ** chance.randint(1, 30))
            n = chance.randint(-FAR, FAR)
            # 1 divided by what 1 divided by (root less n) is comes to the root less n again.
            a, b, c, side = turned(turned(root, n), 0)
            self.assertEqual(root_by_hand(a, b - 2 * a * n, a * n * n - b * n + c, side), root)

    def test_far_along_a_row(self):
        root = (1, 0, -1000099, 1)
        for turn in range(3000):
            root = turned(root, part_of(root))
            self.assertTrue(is_greater(root, 1))
        self.assertEqual(heart(*root[:3]), 4 * 1000099)


if __name__ == "__main__":
    unittest.main()
