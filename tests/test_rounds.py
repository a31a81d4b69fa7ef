"""[3.3] rounds_of, root_by; [3.4] first_parts; [0.2] (a) for roots, (d) by rows; [0.3] kinds, told again."""

import inspect
import itertools
import math
import random
import unittest
from fractions import Fraction

from by_hand import (
    fraction_by_chance, has_roots, order_by_hand, root_by_chance, root_by_hand, row_by_hand, row_of_value,
    small_fractions, small_roots,
)
from rootrow.errors import NoNumber, RowError
from rootrow.ordering import compare
from rootrow.roots import is_root, other_root, part_of, turned
from rootrow.rounds import first_parts, root_by, rounds_of
from rootrow.rows import fraction_of, row_of

FAR = 10 ** 45
ROOT_OF_TWO = (1, 0, -2, 1)
GOLDEN = (1, -1, -1, 1)


def row_by_turns(root, count):
    row = []
    for turn in range(count):
        part = part_of(root)
        row.append(part)
        root = turned(root, part)
    return tuple(row)


def again_and_again(ahead, again, count):
    return (ahead + again * (count // len(again) + 1))[:count]


def shortest(ahead, again):
    # The shortest round that the parts go round by, then as short a beginning as that round allows.
    length = len(again)
    for size in range(1, length + 1):
        if length % size == 0 and again == again[:size] * (length // size):
            again = again[:size]
            break
    while ahead and ahead[-1] == again[-1]:
        again = again[-1:] + again[:-1]
        ahead = ahead[:-1]
    return (ahead, again)


def row_by_chance(chance, bound):
    ahead = [chance.randint(1, bound) for place in range(chance.randint(0, 5))]
    again = [chance.randint(1, bound) for place in range(chance.randint(1, 6))]
    if ahead:
        ahead[0] = chance.randint(-20, bound)
    return (tuple(ahead), tuple(again))


class Interface(unittest.TestCase):
    def test_arguments(self):
        for function, names in (
            (rounds_of, ["root"]), (root_by, ["ahead", "again"]), (first_parts, ["number", "count"]),
        ):
            with self.subTest(function=function.__name__):
                self.assertEqual(list(inspect.signature(function).parameters), names)

    def test_arguments_by_name(self):
        self.assertEqual(rounds_of(root=ROOT_OF_TWO), ((1,), (2,)))
        self.assertEqual(root_by(ahead=(1,), again=(2,)), ROOT_OF_TWO)
        self.assertEqual(first_parts(number=ROOT_OF_TWO, count=3), (1, 2, 2))


class RoundsOf(unittest.TestCase):
    def told(self, root):
        answer = rounds_of(root)
        self.assertIs(type(answer), tuple)
        self.assertEqual([type(part) for part in answer], [tuple, tuple])
        ahead, again = answer
        self.assertNotEqual(again, ())
        self.assertEqual({type(part) for part in ahead + again}, {int})
        self.assertTrue(all([part >= 1 for part in (ahead + again)[1:] + again]), root)
        self.assertEqual(shortest(ahead, again), answer, root)
        self.assertEqual(rounds_of(root), answer)
        return answer

    def check(self, root):
        ahead, again = self.told(root)
        self.assertEqual(row_by_turns(root, len(ahead) + 3 * len(again)), ahead + again * 3, root)
        self.assertEqual(root_by(ahead, again), root)

    def test_by_hand(self):
        for root, answer in (
            (GOLDEN, ((), (1,))), (ROOT_OF_TWO, ((1,), (2,))), ((1, 0, -3, 1), ((1,), (1, 2))),
            ((1, -2, -1, 1), ((), (2,))), ((1, 0, -7, 1), ((2,), (1, 1, 1, 4))), ((1, 0, -2, 0), ((-2, 1, 1), (2,))),
            ((1, -1, -1, 0), ((-1, 2), (1,))), ((2, 0, -1, 1), ((0, 1), (2,))), ((1, 1, -1, 1), ((0,), (1,))),
            ((1, 0, -14, 1), ((3,), (1, 2, 1, 6))), ((1, -2, -2, 1), ((), (2, 1))), ((2, -2, -1, 1), ((), (1, 2))),
            ((1, 0, -FAR * FAR - 1, 1), ((FAR,), (2 * FAR,))),
            ((1, 0, -FAR * FAR - 1, 0), ((-FAR - 1, 1, 2 * FAR - 1), (2 * FAR,))),
        ):
            with self.subTest(root=root):
                self.assertEqual(self.told(root), answer)

    def test_small_roots(self):
        for root in small_roots(5):
            self.check(root)

    def test_roots_of_numbers_to_nine(self):
        chance = random.Random(91)
        for root in chance.sample(small_roots(9), 1500):
            self.check(root)

    def test_roots_beyond(self):
        chance = random.Random(92)
        for turn in range(300):
            root = root_by_chance(chance, chance.choice((30, 90, 400)))
            self.check(root)
            self.check(other_root(root))

    def test_the_row_is_that_of_the_number(self):
        chance = random.Random(93)
        for turn in range(300):
            root = root_by_chance(chance, 30)
            ahead, again = rounds_of(root)
            count = min(len(ahead) + 2 * len(again), 60)
            self.assertEqual(again_and_again(ahead, again, count), row_by_hand(root, count), root)

    def test_which_go_round_from_their_first_part_on(self):
        # By Galois just those above 1 whose other root lies between -1 and 0.
        empty = 0
        for root in small_roots(8):
            above = order_by_hand(root, (1, 1)) > 0
            other = other_root(root)
            beside = order_by_hand(other, (-1, 1)) > 0 and order_by_hand(other, (0, 1)) < 0
            self.assertEqual(rounds_of(root)[0] == (), above and beside, root)
            empty += above and beside
        self.assertGreater(empty, 50)

    def test_a_row_that_goes_round_from_its_first_part_on(self):
        chance = random.Random(94)
        for turn in range(300):
            again = tuple([chance.randint(1, 99) for place in range(chance.randint(1, 9))])
            self.assertEqual(self.told(root_by((), again)), shortest((), again))

    def test_different_roots_have_different_rows(self):
        seen = {}
        for root in small_roots(6):
            seen.setdefault(rounds_of(root), []).append(root)
        self.assertEqual([roots for roots in seen.values() if len(roots) > 1], [])

    def test_a_long_round(self):
        for n in (1000099, 99991, 94 * 10 ** 4 + 1):
            ahead, again = rounds_of((1, 0, -n, 1))
            # The row of the root of a whole number: a round that reads alike both ways but for its last part.
            self.assertEqual(ahead, (math.isqrt(n),))
            self.assertEqual(again[-1], 2 * ahead[0])
            self.assertEqual(again[:-1], again[-2::-1])
            self.assertNotIn(2 * ahead[0], again[:-1])
            self.assertTrue(root_by(ahead, again) == (1, 0, -n, 1))


class RootBy(unittest.TestCase):
    def told(self, ahead, again):
        root = root_by(ahead, again)
        self.assertIs(type(root), tuple)
        self.assertEqual([type(part) for part in root], [int] * 4)
        self.assertIs(is_root(root), True)
        self.assertTrue(has_roots(*root[:3]) and root == root_by_hand(*root))
        self.assertEqual(root_by(ahead, again), root)
        return root

    def check(self, ahead, again):
        root = self.told(ahead, again)
        count = len(ahead) + 3 * len(again)
        self.assertEqual(row_by_turns(root, count), again_and_again(ahead, again, count), (ahead, again))
        self.assertEqual(rounds_of(root), shortest(ahead, again))

    def refused(self, ahead, again):
        for taken in (NoNumber, RowError, ValueError):
            with self.assertRaises(taken) as caught:
                root_by(ahead, again)
            self.assertIs(type(caught.exception), NoNumber)

    def test_by_hand(self):
        for ahead, again, root in (
            ((), (1,), GOLDEN), ((), (1, 1), GOLDEN), ((1,), (1,), GOLDEN), ((1, 1, 1), (1, 1), GOLDEN),
            ((1,), (2,), ROOT_OF_TWO), ((1, 2), (2,), ROOT_OF_TWO), ((1,), (2, 2, 2), ROOT_OF_TWO),
            ((-2, 1, 1), (2,), (1, 0, -2, 0)), ((0,), (1,), (1, 1, -1, 1)), ((-1,), (1,), (1, 3, 1, 1)),
            ((0, 1), (2,), (2, 0, -1, 1)), ((), (2,), (1, -2, -1, 1)), ((), (2, 1), (1, -2, -2, 1)),
            ((), (FAR,), (1, -FAR, -1, 1)), ((FAR,), (2 * FAR,), (1, 0, -FAR * FAR - 1, 1)),
            ((1, 1), (2, 1), (1, 0, -3, 1)),
        ):
            with self.subTest(ahead=ahead, again=again):
                self.assertEqual(self.told(ahead, again), root)

    def test_all_short_rows(self):
        rounds = [again for size in (1, 2, 3) for again in itertools.product((1, 2, 3), repeat=size)]
        for again in rounds:
            self.check((), again)
            for first in (-2, -1, 0, 1, 2):
                self.check((first,), again)
                for part in (1, 2, 3):
                    self.check((first, part), again)

    def test_rows_by_chance(self):
        chance = random.Random(95)
        for turn in range(800):
            self.check(*row_by_chance(chance, chance.choice((2, 5, 30))))

    def test_parts_beyond(self):
        chance = random.Random(96)
        for turn in range(300):
            self.check(*row_by_chance(chance, 10 ** chance.randint(2, 30)))

    def test_the_number_is_that_of_the_row(self):
        chance = random.Random(97)
        for turn in range(300):
            ahead, again = row_by_chance(chance, 30)
            count = len(ahead) + 2 * len(again)
            self.assertEqual(row_by_hand(root_by(ahead, again), count), again_and_again(ahead, again, count))

    def test_rounds_and_beginnings_that_could_be_shorter(self):
        chance = random.Random(98)
        for turn in range(300):
            ahead, again = row_by_chance(chance, 6)
            root = self.told(ahead, again)
            for times in (2, 3):
                self.assertEqual(self.told(ahead, again * times), root)
            for size in range(1, len(again) + 2):
                longer = again_and_again((), again, size)
                behind = again_and_again((), again, size + len(again))[size:]
                self.assertEqual(self.told(ahead + longer, behind), root)

    def test_of_what_rounds_of_told(self):
        chance = random.Random(99)
        for root in small_roots(6) + [root_by_chance(chance, 300) for turn in range(200)]:
            self.assertEqual(root_by(*rounds_of(root)), root)

    def test_different_rows_tell_different_roots(self):
        seen = {}
        parts = (1, 2, 3)
        for size, first in itertools.product((1, 2, 3), (None, -1, 0, 1, 2)):
            for again in itertools.product(parts, repeat=size):
                ahead = () if first is None else (first,)
                seen.setdefault(root_by(ahead, again), set()).add(shortest(ahead, again))
        self.assertEqual([rows for rows in seen.values() if len(rows) > 1], [])

    def test_a_beginning_alone(self):
        for ahead in ((), (1,), (0,), (-3,), (1, 2, 3), (FAR,), (2, 0), (1, -1)):
            with self.subTest(ahead=ahead):
                self.refused(ahead, ())

    def test_parts_of_zero_or_below(self):
        for ahead, again in (
            ((1, 0), (1,)), ((1, -1), (2,)), ((0, 0), (1,)), ((1, 2, 0), (1, 2)), ((1, 2, 3, 4, -5), (6,)),
            ((1, 0, 2), (3,)), ((-1, -1), (1,)), ((1,), (0,)), ((1,), (-1,)), ((1,), (2, 0)), ((1,), (0, 2)),
            ((1,), (1, 2, -3)), ((1,), (1, -2, 3)), ((1, 2), (-FAR,)), ((), (1, 0)), ((), (1, -1)),
            ((), (2, 1, 0)), ((), (2, 0, 1)), ((), (1, 1, 1, 1, 1, -1)), ((0,), (0,)), ((-1,), (-1,)),
        ):
            with self.subTest(ahead=ahead, again=again):
                self.refused(ahead, again)

    def test_the_first_of_the_round_without_a_beginning(self):
        for again in ((0,), (-1,), (0, 1), (-1, 2), (-2, 3, 4), (0, 0), (-FAR,), (-20, 1, 1, 1)):
            with self.subTest(again=again):
                self.refused((), again)

    def test_one_wrong_part_by_chance(self):
        chance = random.Random(100)
        for turn in range(500):
            ahead, again = row_by_chance(chance, 30)
            row = list(ahead + again)
            place = chance.randint(1 if ahead else 0, len(row) - 1)
            row[place] = chance.randint(-20, 0)
            self.refused(tuple(row[:len(ahead)]), tuple(row[len(ahead):]))

    def test_the_first_of_both_may_be_zero_or_below(self):
        for first in (0, -1, -2, -20, -FAR):
            self.check((first,), (1,))
            self.check((first, 1), (3, 2))
            self.check((first, 2, 1), (1, 2))

    def test_a_long_row(self):
        chance = random.Random(101)
        ahead = tuple([chance.randint(1, 9) for place in range(400)])
        again = tuple([chance.randint(1, 9) for place in range(1200)])
        root = root_by(ahead, again)
        self.assertTrue(first_parts(root, 500) == again_and_again(ahead, again, 500))


class FirstParts(unittest.TestCase):
    def told(self, number, count, answer):
        for turn in range(2):
            parts = first_parts(number, count)
            self.assertIs(type(parts), tuple)
            self.assertEqual([type(part) for part in parts], [int] * len(answer))
            self.assertEqual(parts, answer, (number, count))

    def check_fraction(self, fraction):
        row = tuple(row_of_value(Fraction(*fraction)))
        self.assertEqual(row_of(fraction), row)
        self.assertEqual(fraction_of(row), fraction)
        for count in (0, 1, len(row) // 2, len(row) - 1, len(row), len(row) + 1, 2 * len(row) + 9):
            self.told(fraction, count, row[:count])

    def check_root(self, root, count):
        row = row_by_hand(root, count)
        for size in (0, 1, count // 2, count):
            self.told(root, size, row[:size])

    def test_by_hand(self):
        for number, count, parts in (
            ((355, 113), 0, ()), ((355, 113), 1, (3,)), ((355, 113), 2, (3, 7)), ((355, 113), 3, (3, 7, 16)),
            ((355, 113), 4, (3, 7, 16)), ((355, 113), FAR, (3, 7, 16)), ((0, 1), 0, ()), ((0, 1), 1, (0,)),
            ((0, 1), 5, (0,)), ((-7, 1), 2, (-7,)), ((-1, 2), 9, (-1, 2)), ((1, 2), 1, (0,)), ((1, 2), 2, (0, 2)),
            (ROOT_OF_TWO, 0, ()), (ROOT_OF_TWO, 1, (1,)), (ROOT_OF_TWO, 5, (1, 2, 2, 2, 2)), (GOLDEN, 3, (1, 1, 1)),
            ((1, 0, -2, 0), 5, (-2, 1, 1, 2, 2)), ((1, 0, -7, 1), 10, (2, 1, 1, 1, 4, 1, 1, 1, 4, 1)),
        ):
            with self.subTest(number=number, count=count):
                self.told(number, count, parts)

    def test_small_fractions(self):
        for fraction in small_fractions(12):
            self.check_fraction(fraction)

    def test_fractions_of_numbers_to_two_hundred(self):
        chance = random.Random(102)
        for turn in range(1000):
            self.check_fraction(fraction_by_chance(chance, 200))

    def test_fractions_of_thirty_figures_and_more(self):
        chance = random.Random(103)
        for figures in (30, 45):
            for turn in range(200):
                self.check_fraction(fraction_by_chance(chance, 10 ** figures))

    def test_small_roots(self):
        for root in small_roots(3):
            self.check_root(root, 12)

    def test_roots_by_chance(self):
        chance = random.Random(104)
        for turn in range(300):
            self.check_root(root_by_chance(chance, 10 ** chance.randint(1, 20)), chance.randint(1, 40))

    def test_of_a_row_that_goes_round(self):
        chance = random.Random(105)
        for turn in range(300):
            root = root_by_chance(chance, 30)
            ahead, again = rounds_of(root)
            for count in (0, len(ahead), len(ahead) + len(again), len(ahead) + 2 * len(again) + 1):
                self.told(root, count, again_and_again(ahead, again, count))


class OrderOfRows(unittest.TestCase):
    def order_by_rows(self, one, other):
        # Parts at places with an odd number of others ahead count the other way round; where a row ends it is
        # as if a part greater than all others followed.
        rows = [first_parts(number, 80) + (math.inf,) for number in (one, other)]
        for place, parts in enumerate(zip(*rows)):
            if parts[0] != parts[1]:
                return (1 if parts[0] > parts[1] else -1) * (1 if place % 2 == 0 else -1)
        return 0

    def test_numbers_are_ordered_as_their_rows_are(self):
        for one, other in itertools.product(small_fractions(4) + small_roots(2), repeat=2):
            self.assertEqual(compare(one, other), self.order_by_rows(one, other), (one, other))

    def test_numbers_by_chance(self):
        chance = random.Random(106)
        for turn in range(1500):
            numbers = [
                root_by_chance(chance, 30) if chance.randint(0, 2) > 0 else fraction_by_chance(chance, 90)
                for place in range(2)
            ]
            self.assertEqual(compare(*numbers), self.order_by_rows(*numbers), numbers)


if __name__ == "__main__":
    unittest.main()
