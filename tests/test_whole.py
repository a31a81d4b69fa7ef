"""[0.1], [0.2] (d) and [0.3] over the whole program, and the interface, all of it."""

import copy
import importlib
import inspect
import random
import unittest
from fractions import Fraction

from by_hand import fraction_by_chance, root_by_chance, row_of_value, side_of
from rootrow.errors import NoNumber, RowError
from rootrow.fractions import is_fraction, least_square, lowest
from rootrow.nearness import between, nearest, simplest
from rootrow.ordering import compare
from rootrow.pairs import least_minus, least_pair, pair_at
from rootrow.roots import is_root, other_root, part_of, root_of, turned
from rootrow.rounds import first_parts, root_by, rounds_of
from rootrow.rows import fraction_of, row_of
from rootrow.ways import fraction_at, way_to

INTERFACE = {
    "fractions": {"is_fraction": ["thing"], "lowest": ["upper", "lower"], "least_square": ["n"]},
    "rows": {"row_of": ["fraction"], "fraction_of": ["row"]},
    "ways": {"way_to": ["fraction"], "fraction_at": ["way"]},
    "roots": {
        "is_root": ["thing"], "root_of": ["a", "b", "c", "side"], "other_root": ["root"], "part_of": ["number"],
        "turned": ["root", "n"],
    },
    "ordering": {"compare": ["one", "other"]},
    "nearness": {"simplest": ["low", "high"], "nearest": ["number", "most"], "between": ["low", "high", "most"]},
    "rounds": {"rounds_of": ["root"], "root_by": ["ahead", "again"], "first_parts": ["number", "count"]},
    "pairs": {"least_pair": ["d"], "least_minus": ["d"], "pair_at": ["d", "k"]},
}


def calls_by_chance(chance):
    one, other = [fraction_by_chance(chance, 40) for place in range(2)]
    root = root_by_chance(chance, 20)
    above = (abs(one[0]) + 1, 1) if one[0] < 1 else one
    row = tuple([chance.randint(1, 9) for place in range(chance.randint(1, 6))])
    n = chance.randint(-9, 9)
    return [
        (is_fraction, (one,)), (is_fraction, ([1, [n]],)), (lowest, (n, chance.randint(-3, 9))),
        (least_square, (n * n + 3,)), (row_of, (one,)), (fraction_of, (row,)), (fraction_of, ((n, n, n),)),
        (way_to, (above,)), (way_to, (one,)), (fraction_at, (tuple([part % 2 for part in row]),)), (is_root, (root,)),
        (is_root, ([1, [n], -2, 1],)), (root_of, (n, chance.randint(-9, 9), chance.randint(-9, 9), 1)),
        (other_root, (root,)), (part_of, (root,)), (part_of, (one,)), (turned, (root, n)), (compare, (one, root)),
        (compare, (one, other)), (compare, (one, one)), (simplest, (one, root)), (simplest, (root, other)),
        (simplest, (one, one)), (nearest, (root, abs(n) + 1)), (nearest, (one, abs(n) + 1)),
        (between, (one, other, abs(n) + 1)), (rounds_of, (root,)), (root_by, (row[:2], row)), (root_by, (row, ())),
        (root_by, ((), (n, 2))), (first_parts, (one, abs(n))), (first_parts, (root, abs(n))),
        (least_pair, (n,)), (least_minus, (n,)), (least_minus, (61,)), (pair_at, (7, n)), (pair_at, (n, 2)),
    ]


def answer_of(function, arguments):
    try:
        return function(*arguments)
    except NoNumber:
        return "refused"


class Interface(unittest.TestCase):
    def test_names_and_arguments(self):
        for file, functions in INTERFACE.items():
            module = importlib.import_module("rootrow." + file)
            for name, arguments in functions.items():
                with self.subTest(file=file, name=name):
                    parameters = inspect.signature(getattr(module, name)).parameters
                    self.assertEqual(list(parameters), arguments)
                    self.assertEqual({parameter.default for parameter in parameters.values()}, {inspect.Parameter.empty})

    def test_errors(self):
        self.assertEqual(RowError.__mro__[1], ValueError)
        self.assertTrue(issubclass(NoNumber, RowError))

    def test_the_package_folder_is_the_only_one_drawn_from(self):
        for file in INTERFACE:
            for value in vars(importlib.import_module("rootrow." + file)).values():
                if inspect.isfunction(value) or inspect.isclass(value):
                    self.assertTrue(value.__module__.startswith("rootrow."), value)


class Things(unittest.TestCase):
    def made_of_tuples_and_whole_numbers(self, thing):
        if type(thing) is tuple:
            return all([self.made_of_tuples_and_whole_numbers(part) for part in thing])
        return type(thing) is int

    def test_kinds(self):
        chance = random.Random(121)
        for turn in range(150):
            for function, arguments in calls_by_chance(chance):
                answer = answer_of(function, arguments)
                if answer == "refused":
                    continue
                if function in (is_fraction, is_root):
                    self.assertIn(answer, (True, False))
                    self.assertIs(type(answer), bool)
                elif answer is None:
                    self.assertIs(function, least_minus)
                else:
                    self.assertTrue(self.made_of_tuples_and_whole_numbers(answer), (function.__name__, arguments))

    def test_nothing_handed_in_is_changed(self):
        chance = random.Random(122)
        for turn in range(150):
            for function, arguments in calls_by_chance(chance):
                before = copy.deepcopy(arguments)
                answer_of(function, arguments)
                self.assertEqual(arguments, before, function.__name__)

    def test_asked_again_the_same_is_told(self):
        chance = random.Random(123)
        calls = [call for turn in range(60) for call in calls_by_chance(chance)]
        answers = [answer_of(*call) for call in calls]
        # In another order too, so that nothing kept from one call can reach another.
        for place in reversed(range(len(calls))):
            function, arguments = calls[place]
            self.assertEqual(answer_of(function, copy.deepcopy(arguments)), answers[place], (function, arguments))

    def test_like_things_are_taken_for_like(self):
        one, other = tuple([1, 0, -2, 1]), tuple([1, 0] + [-2, 1])
        self.assertEqual(compare(one, other), 0)
        self.assertEqual(rounds_of(one), rounds_of(other))
        self.assertEqual(root_by(*rounds_of(one)), other)

    def test_truths_are_no_whole_numbers(self):
        for thing in ((True, 2), (1, True), (False, True)):
            self.assertIs(is_fraction(thing), False)
        for thing in ((True, 0, -2, 1), (1, False, -2, 1), (1, 0, -2, True), (1, 5, True, 1)):
            self.assertIs(is_root(thing), False)


class Together(unittest.TestCase):
    def number(self, chance):
        return root_by_chance(chance, 30) if chance.randint(0, 1) else fraction_by_chance(chance, 30)

    def test_the_simplest_above_zero_is_the_first_on_a_way_down_the_tree(self):
        chance = random.Random(124)
        seen = 0
        for turn in range(1500):
            low, high = self.number(chance), self.number(chance)
            if compare(low, high) >= 0 or compare(low, (0, 1)) < 0:
                continue
            seen += 1
            way = ()
            while True:
                place = Fraction(*fraction_at(way))
                if side_of(low, place) >= 0:
                    way += (1,)
                elif side_of(high, place) <= 0:
                    way += (0,)
                else:
                    break
            self.assertEqual(way_to(simplest(low, high)), way, (low, high))
        self.assertGreater(seen, 200)

    def test_the_nearest_is_one_of_those_between(self):
        chance = random.Random(125)
        for turn in range(500):
            number = self.number(chance)
            most = chance.randint(1, 12)
            part = part_of(number)
            around = between((part, 1), (part + 1, 1), most)
            told = nearest(number, most)
            self.assertIn(told, around)
            for other in around:
                # Half way to another one lies no nearer side for that one.
                half = lowest(told[0] * other[1] + other[0] * told[1], 2 * told[1] * other[1])
                if told != other:
                    self.assertNotEqual(compare(number, half), compare(other, told), (number, most, other))

    def test_between_two_that_follow_one_another_the_simplest_is_too_fine(self):
        for most in (1, 2, 5, 11):
            row = between((-2, 1), (2, 1), most)
            for low, high in zip(row, row[1:]):
                told = simplest(low, high)
                self.assertEqual(told, (low[0] + high[0], low[1] + high[1]))
                self.assertGreater(told[1], most)

    def test_the_first_parts_of_a_root_come_near_it(self):
        chance = random.Random(126)
        for turn in range(300):
            root = root_by_chance(chance, 30)
            for count in (2, 3, 6, 10):
                fraction = fraction_of(first_parts(root, count))
                if fraction[1] > 1:
                    self.assertEqual(nearest(root, fraction[1]), fraction)
                # In turn below and above.
                self.assertEqual(compare(fraction, root), -1 if count % 2 == 1 else 1)

    def test_rows_of_fractions_stay_as_they_are(self):
        chance = random.Random(127)
        for turn in range(300):
            fraction = fraction_by_chance(chance, 10 ** chance.randint(1, 30))
            row = row_of(fraction)
            self.assertEqual(row, tuple(row_of_value(Fraction(*fraction))))
            self.assertEqual(fraction_of(row), fraction)
            self.assertEqual(first_parts(fraction, len(row)), row)

    def test_a_least_pair_is_a_fraction_of_its_roots_row(self):
        for d in (2, 3, 7, 13, 46, 61, 109):
            x, y = least_pair(d)
            parts = first_parts((1, 0, -d, 1), len(row_of((x, y))) + 1)
            self.assertIn((x, y), [fraction_of(parts[:count]) for count in range(1, len(parts) + 1)])
            self.assertEqual(nearest((1, 0, -d, 1), y), (x, y))


if __name__ == "__main__":
    unittest.main()
