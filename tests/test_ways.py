"""[1.3] way_to and fraction_at; [0.2] (a) for ways; [0.3] kinds, nothing changed, told again."""

import inspect
import itertools
import math
import random
import unittest

from rootrow.errors import NoNumber, RowError
from rootrow.fractions import is_fraction, lowest
from rootrow.rows import fraction_of, row_of
from rootrow.ways import fraction_at, way_to

FAR = 10 ** 30


def walked(way):
    lower_bound, place, upper_bound = (0, 1), (1, 1), (1, 0)
    for step in way:
        if step == 1:
            lower_bound, place = place, (place[0] + upper_bound[0], place[1] + upper_bound[1])
        else:
            upper_bound, place = place, (place[0] + lower_bound[0], place[1] + lower_bound[1])
    return place


def fractions_above_zero(bound):
    return [
        (upper, lower)
        for upper in range(1, bound + 1)
        for lower in range(1, bound + 1)
        if math.gcd(upper, lower) == 1
    ]


def all_ways(length):
    return itertools.product((0, 1), repeat=length)


class Interface(unittest.TestCase):
    def test_arguments(self):
        for function, names in ((way_to, ["fraction"]), (fraction_at, ["way"])):
            with self.subTest(function=function.__name__):
                self.assertEqual(list(inspect.signature(function).parameters), names)

    def test_arguments_by_name(self):
        self.assertEqual(way_to(fraction=(1, 2)), (0,))
        self.assertEqual(fraction_at(way=(0,)), (1, 2))


class WayTo(unittest.TestCase):
    def check(self, fraction):
        way = way_to(fraction)
        self.assertIs(type(way), tuple)
        self.assertTrue(all([type(step) is int and step in (0, 1) for step in way]), fraction)
        self.assertEqual(len(way), sum(row_of(fraction)) - 1)
        self.assertEqual(walked(way), fraction)
        self.assertEqual(fraction_at(way), fraction)
        self.assertEqual(way_to(fraction), way)

    def test_the_top(self):
        self.assertEqual(way_to((1, 1)), ())
        self.assertIs(type(way_to((1, 1))), tuple)

    def test_by_hand(self):
        for fraction, way in (
            ((1, 2), (0,)), ((2, 1), (1,)), ((1, 3), (0, 0)), ((2, 3), (0, 1)), ((3, 2), (1, 0)), ((3, 1), (1, 1)),
            ((1, 4), (0, 0, 0)), ((2, 5), (0, 0, 1)), ((3, 5), (0, 1, 0)), ((3, 4), (0, 1, 1)),
            ((4, 3), (1, 0, 0)), ((5, 3), (1, 0, 1)), ((5, 2), (1, 1, 0)), ((4, 1), (1, 1, 1)),
            ((13, 8), (1, 0, 1, 0, 1)), ((355, 113), (1,) * 3 + (0,) * 7 + (1,) * 15),
        ):
            with self.subTest(fraction=fraction):
                self.assertEqual(way_to(fraction), way)

    def test_small_ones(self):
        for fraction in fractions_above_zero(60):
            self.check(fraction)

    def test_whole_ones_and_their_turned_ones(self):
        for n in list(range(1, 200)) + [5000]:
            self.assertEqual(way_to((n, 1)), (1,) * (n - 1))
            self.assertEqual(way_to((1, n)), (0,) * (n - 1))

    def test_far_beyond(self):
        chance = random.Random(11)
        for turn in range(300):
            parts = [chance.randint(1, 40) for place in range(chance.randint(1, 40))]
            self.check(fraction_of((chance.randint(0, 40),) + tuple(parts)))
            # So many figures all the same, and parts as they come by chance, but none so great that no way would end.
            fraction = lowest(chance.randint(1, FAR), chance.randint(1, FAR))
            if sum(row_of(fraction)) < 20000:
                self.check(fraction)

    def test_each_fraction_has_a_way_of_its_own(self):
        fractions = fractions_above_zero(40)
        self.assertEqual(len(set([way_to(fraction) for fraction in fractions])), len(fractions))

    def test_long_ways(self):
        for row in ((1,) * 4000 + (2,), (0,) + (1, 2, 3) * 1500 + (2,), (5000,), (0, 5000), (3000, 3000)):
            fraction = fraction_of(row)
            way = way_to(fraction)
            # assertTrue, since numbers this long can't be written out on a failure.
            self.assertTrue(len(way) == sum(row) - 1)
            self.assertTrue(walked(way) == fraction)
            self.assertTrue(fraction_at(way) == fraction)

    def test_zero_and_below_is_refused(self):
        for fraction in ((0, 1), (-1, 1), (-1, 2), (-2, 1), (-60, 59), (-59, 60), (-FAR, 1), (-1, FAR)):
            for taken in (NoNumber, RowError, ValueError):
                with self.subTest(fraction=fraction, taken=taken):
                    with self.assertRaises(taken) as caught:
                        way_to(fraction)
                    self.assertIs(type(caught.exception), NoNumber)


class FractionAt(unittest.TestCase):
    def check(self, way):
        fraction = fraction_at(way)
        self.assertEqual([type(part) for part in fraction], [int, int])
        self.assertIs(is_fraction(fraction), True)
        self.assertEqual(fraction, walked(way))
        self.assertEqual(way_to(fraction), way)
        self.assertEqual(fraction_at(way), fraction)

    def test_no_step(self):
        self.assertEqual(fraction_at(()), (1, 1))

    def test_by_hand(self):
        for way, fraction in (
            ((0,), (1, 2)), ((1,), (2, 1)), ((0, 1), (2, 3)), ((1, 0), (3, 2)), ((0, 1, 0), (3, 5)),
            ((1, 0, 1), (5, 3)), ((0, 0, 1, 1), (3, 7)), ((1, 1, 0, 0), (7, 3)), ((1,) * 40, (41, 1)),
            ((0,) * 40, (1, 41)),
        ):
            with self.subTest(way=way):
                self.assertEqual(fraction_at(way), fraction)

    def test_all_short_ways(self):
        for length in range(11):
            for way in all_ways(length):
                self.check(way)

    def test_each_way_leads_to_a_fraction_of_its_own(self):
        ways = [way for length in range(12) for way in all_ways(length)]
        self.assertEqual(len(set([fraction_at(way) for way in ways])), len(ways))

    def test_ways_of_one_length_rise(self):
        told = [fraction_at(way) for way in all_ways(8)]
        for one, other in zip(told, told[1:]):
            self.assertLess(one[0] * other[1], other[0] * one[1])

    def test_up_to_forty_steps_and_longer(self):
        chance = random.Random(12)
        for length in list(range(41)) + [60, 100, 300]:
            for turn in range(25):
                self.check(tuple([chance.randint(0, 1) for place in range(length)]))

    def test_long_ways(self):
        chance = random.Random(13)
        for length in (2000, 5000):
            for way in (
                (0,) * length, (1,) * length, (0, 1) * length, (1, 0) * length,
                tuple([chance.randint(0, 1) for place in range(length)]),
            ):
                fraction = fraction_at(way)
                # assertTrue, since numbers this long can't be written out on a failure.
                self.assertTrue(fraction == walked(way))
                self.assertTrue(math.gcd(fraction[0], fraction[1]) == 1)
                self.assertTrue(way_to(fraction) == way)


if __name__ == "__main__":
    unittest.main()
