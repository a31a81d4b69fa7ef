"""[4.1] least_pair, least_minus, pair_at; [0.2] (e) the least ones, of which all others come; [0.3] kinds."""

import inspect
import math
import random
import unittest

from rootrow.errors import NoNumber, RowError
from rootrow.pairs import least_minus, least_pair, pair_at

FAR = 10 ** 45
WITHOUT_A_PAIR = (0, 1, 4, 9, 16, 25, 49, 10 ** 6, FAR * FAR, -1, -2, -3, -4, -7, -61, -FAR, -FAR * FAR)


def is_square_by_hand(n):
    return math.isqrt(n) ** 2 == n


def no_squares(first, last):
    return [d for d in range(first, last + 1) if not is_square_by_hand(d)]


def pairs_up_to(d, most, more):
    # All pairs with y up to a bound, x times x so much more than d times y times y.
    found = []
    for y in range(1, most + 1):
        square = d * y * y + more
        x = math.isqrt(square)
        if x >= 1 and x * x == square:
            found.append((x, y))
    return found


def first_by_going_round(d):
    # The old way of going round (chakravala): from one pair with a small rest to the next until the rest is 1.
    whole = math.isqrt(d)
    x = whole if d - whole * whole <= (whole + 1) ** 2 - d else whole + 1
    y, rest, m = 1, x * x - d, x
    while rest != 1:
        size = abs(rest)
        near = [n for n in range(max(1, whole - size), whole + size + 2) if (n + m) % size == 0]
        m = min(near, key=lambda n: abs(n * n - d))
        x, y, rest = (x * m + d * y) // size, (x + y * m) // size, (m * m - d) // rest
    return (x, y)


class Interface(unittest.TestCase):
    def test_arguments(self):
        for function, names in ((least_pair, ["d"]), (least_minus, ["d"]), (pair_at, ["d", "k"])):
            with self.subTest(function=function.__name__):
                self.assertEqual(list(inspect.signature(function).parameters), names)

    def test_arguments_by_name(self):
        self.assertEqual(least_pair(d=2), (3, 2))
        self.assertEqual(least_minus(d=2), (1, 1))
        self.assertEqual(pair_at(d=2, k=2), (17, 12))


class Told(unittest.TestCase):
    def is_pair(self, pair, d, more):
        self.assertIs(type(pair), tuple)
        self.assertEqual([type(part) for part in pair], [int, int])
        x, y = pair
        self.assertTrue(x >= 1 and y >= 1, d)
        self.assertTrue(x * x == d * y * y + more, d)

    def refused(self, function, arguments):
        for taken in (NoNumber, RowError, ValueError):
            with self.assertRaises(taken) as caught:
                function(*arguments)
            self.assertIs(type(caught.exception), NoNumber)


class LeastPair(Told):
    def told(self, d):
        pair = least_pair(d)
        self.is_pair(pair, d, 1)
        self.assertEqual(least_pair(d), pair)
        return pair

    def test_by_hand(self):
        for d, pair in (
            (2, (3, 2)), (3, (2, 1)), (5, (9, 4)), (6, (5, 2)), (7, (8, 3)), (8, (3, 1)), (10, (19, 6)),
            (13, (649, 180)), (15, (4, 1)), (18, (17, 4)), (29, (9801, 1820)), (46, (24335, 3588)), (50, (99, 14)),
            (61, (1766319049, 226153980)), (109, (158070671986249, 15140424455100)), (991, (
                379516400906811930638014896080, 12055735790331359447442538767
            )),
        ):
            with self.subTest(d=d):
                self.assertEqual(self.told(d), pair)

    def test_none_is_less(self):
        for d in no_squares(2, 300):
            pair = self.told(d)
            self.assertEqual(pairs_up_to(d, min(300, pair[1] - 1), 1), [], d)
            if pair[1] <= 300:
                self.assertEqual(pairs_up_to(d, 300, 1)[0], pair)

    def test_by_another_way(self):
        for d in no_squares(2, 1500):
            self.assertEqual(self.told(d), first_by_going_round(d), d)

    def test_far_beyond(self):
        chance = random.Random(111)
        for n in [chance.randint(2, FAR) for turn in range(100)]:
            # Beside a square the rounds have one or two parts, or four, so the least pairs can be written down.
            self.assertEqual(self.told(n * n - 1), (n, 1))
            self.assertEqual(self.told(n * n + 1), (2 * n * n + 1, 2 * n))
            self.assertEqual(self.told(n * n + 2), (n * n + 1, n))
            self.assertEqual(self.told(n * n - 2), (n * n - 1, n))
            self.assertEqual(self.told(n * n + n), (2 * n + 1, 2))

    def test_a_long_round(self):
        pair = least_pair(1000099)
        self.is_pair(pair, 1000099, 1)
        self.assertTrue(pair == first_by_going_round(1000099))

    def test_squares_and_below_two(self):
        for d in WITHOUT_A_PAIR:
            with self.subTest(d=d):
                self.refused(least_pair, (d,))

    def test_all_from_minus_fifty_to_two_hundred(self):
        for d in range(-50, 200):
            if d < 2 or is_square_by_hand(d):
                self.refused(least_pair, (d,))
            else:
                self.told(d)


class LeastMinus(Told):
    def told(self, d):
        pair = least_minus(d)
        if pair is not None:
            self.is_pair(pair, d, -1)
        self.assertEqual(least_minus(d), pair)
        return pair

    def test_by_hand(self):
        for d, pair in (
            (2, (1, 1)), (3, None), (5, (2, 1)), (6, None), (7, None), (8, None), (10, (3, 1)), (13, (18, 5)),
            (29, (70, 13)), (34, None), (41, (32, 5)), (58, (99, 13)), (61, (29718, 3805)), (146, None),
            (109, (8890182, 851525)), (991, None),
        ):
            with self.subTest(d=d):
                self.assertEqual(self.told(d), pair)

    def test_none_is_less(self):
        for d in no_squares(2, 300):
            pair = self.told(d)
            found = pairs_up_to(d, 300, -1)
            if pair is None:
                self.assertEqual(found, [], d)
            elif pair[1] <= 300:
                self.assertEqual(found[0], pair, d)
            else:
                self.assertEqual(found, [], d)

    def test_put_together_with_itself_it_is_the_least_pair(self):
        # So the least pair's x is one more than twice the square of its x, and tells whether it is there.
        for d in no_squares(2, 1500):
            x = math.isqrt((first_by_going_round(d)[0] - 1) // 2)
            y = math.isqrt((x * x + 1) // d)
            there = x >= 1 and x * x + 1 == d * y * y
            self.assertEqual(self.told(d), (x, y) if there else None, d)

    def test_far_beyond(self):
        chance = random.Random(112)
        for n in [chance.randint(3, FAR) for turn in range(100)]:
            self.assertEqual(self.told(n * n + 1), (n, 1))
            self.assertIsNone(self.told(n * n - 1))
            self.assertIsNone(self.told(n * n + 2))

    def test_squares_and_below_two(self):
        for d in WITHOUT_A_PAIR:
            with self.subTest(d=d):
                self.refused(least_minus, (d,))

    def test_all_from_minus_fifty_to_two_hundred(self):
        for d in range(-50, 200):
            if d < 2 or is_square_by_hand(d):
                self.refused(least_minus, (d,))
            else:
                self.told(d)


class PairAt(Told):
    def told(self, d, k):
        pair = pair_at(d, k)
        self.is_pair(pair, d, 1)
        self.assertTrue(pair_at(d, k) == pair)
        return pair

    def check(self, d, last):
        first = least_pair(d)
        pair = first
        for k in range(1, last + 1):
            told = self.told(d, k)
            self.assertTrue(told == pair, (d, k))
            following = (first[0] * pair[0] + d * first[1] * pair[1], first[0] * pair[1] + first[1] * pair[0])
            self.assertTrue(following[1] > pair[1])
            pair = following

    def test_by_hand(self):
        for d, k, pair in (
            (2, 1, (3, 2)), (2, 2, (17, 12)), (2, 3, (99, 70)), (2, 4, (577, 408)), (3, 1, (2, 1)), (3, 2, (7, 4)),
            (3, 3, (26, 15)), (3, 5, (362, 209)), (7, 2, (127, 48)), (61, 1, (1766319049, 226153980)),
            (8, 2, (17, 6)), (5, 2, (161, 72)), (5, 3, (2889, 1292)),
        ):
            with self.subTest(d=d, k=k):
                self.assertEqual(self.told(d, k), pair)

    def test_each_next_one_is_the_last_and_the_first_put_together(self):
        for d in no_squares(2, 120):
            self.check(d, 12)
        for d in (2, 3, 61, 109, FAR * FAR + 1):
            self.check(d, 70)

    def test_no_others_are_there(self):
        for d in no_squares(2, 30):
            found = pairs_up_to(d, 5000, 1)
            told = [pair_at(d, k) for k in range(1, len(found) + 2)]
            self.assertEqual(told[:-1], found, d)
            self.assertGreater(told[-1][1], 5000)

    def test_far_along(self):
        first = least_pair(2)
        before, pair = (1, 0), first
        for k in range(2, 1001):
            # Each is twice the first x times the last one, less the one ahead of it.
            before, pair = pair, (6 * pair[0] - before[0], 6 * pair[1] - before[1])
        self.assertTrue(self.told(2, 1000) == pair)

    def test_squares_and_below_two(self):
        for d in WITHOUT_A_PAIR:
            for k in (1, 2, 9, 0, -1):
                with self.subTest(d=d, k=k):
                    self.refused(pair_at, (d, k))

    def test_k_of_zero_or_below(self):
        for d in (2, 3, 7, 61, 109, FAR * FAR + 1):
            for k in (0, -1, -2, -60, -FAR):
                with self.subTest(d=d, k=k):
                    self.refused(pair_at, (d, k))


if __name__ == "__main__":
    unittest.main()
