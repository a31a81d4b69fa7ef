"""What several tests reckon by hand of fractions and roots, without the program."""

import itertools
import math
from fractions import Fraction


def heart(a, b, c):
    return b * b - 4 * a * c


def has_roots(a, b, c):
    n = heart(a, b, c)
    return a != 0 and n > 0 and math.isqrt(n) ** 2 != n


def root_by_hand(a, b, c, side):
    common = math.gcd(a, b, c) if a > 0 else -math.gcd(a, b, c)
    return (a // common, b // common, c // common, side)


def is_greater(root, value):
    # Between both roots the equation comes to less than 0; the middle of both is where 2ax + b is 0.
    a, b, c, side = root
    at_value = a * value * value + b * value + c
    ahead_of_the_middle = 2 * a * value + b < 0
    if side == 1:
        return at_value < 0 or ahead_of_the_middle
    return at_value > 0 and ahead_of_the_middle


def close_value(root, figures):
    a, b, c, side = root
    scale = 10 ** figures
    spread = math.isqrt(heart(a, b, c) * scale * scale)
    return Fraction((spread if side == 1 else -spread) - b * scale, 2 * a * scale)


def small_roots(bound):
    places = range(-bound, bound + 1)
    return [
        (a, b, c, side)
        for a, b, c in itertools.product(range(1, bound + 1), places, places)
        if has_roots(a, b, c) and math.gcd(a, b, c) == 1
        for side in (0, 1)
    ]


def root_by_chance(chance, bound):
    while True:
        a, b, c = [chance.randint(-bound, bound) for place in range(3)]
        if has_roots(a, b, c):
            return root_by_hand(a, b, c, chance.randint(0, 1))


def pair(value):
    return (value.numerator, value.denominator)


def fraction_by_chance(chance, bound):
    return pair(Fraction(chance.randint(-bound, bound), chance.randint(1, bound)))


def small_fractions(bound):
    places = range(-bound, bound + 1)
    return [(upper, lower) for upper in places for lower in range(1, bound + 1) if math.gcd(upper, lower) == 1]


def side_of(number, value):
    # -1, 0 or 1 as the number is less than the value, the same or greater.
    if len(number) == 2:
        left = number[0] * value.denominator - value.numerator * number[1]
        return (left > 0) - (left < 0)
    return 1 if is_greater(number, value) else -1


def bound_of(number):
    return Fraction(1 + sum([abs(part) for part in number]))


def order_by_hand(one, other):
    if one == other:
        return 0
    # Halve until a value lies between both, or is one of them.
    high = max(bound_of(one), bound_of(other))
    low = -high
    while True:
        value = (low + high) / 2
        sides = (side_of(one, value), side_of(other, value))
        if sides[0] != sides[1]:
            return 1 if sides[0] > sides[1] else -1
        if sides[0] == 1:
            low = value
        else:
            high = value


def root_beside(value, spread, n, side):
    # The value and, above or below it, the root of n divided by the spread.
    upper, lower = pair(value)
    square = spread * spread
    return root_by_hand(
        lower * lower * square, -2 * upper * lower * square, upper * upper * square - n * lower * lower, side
    )


def floor_times(number, times):
    # The greatest whole number that is no greater than the number taken so many times.
    if len(number) == 2:
        return number[0] * times // number[1]
    a, b, c, side = number
    spread = math.isqrt(heart(a, b, c) * times * times)
    return ((spread if side == 1 else -spread - 1) - b * times) // (2 * a)


def mirrored_by_hand(number):
    if len(number) == 2:
        return (-number[0], number[1])
    a, b, c, side = number
    return (a, -b, c, 1 - side)


def row_of_value(value):
    row = []
    while True:
        part = value.numerator // value.denominator
        row.append(part)
        if part == value:
            return row
        value = 1 / (value - part)


def row_by_hand(root, count):
    # What lies between two fractions has all those parts that both rows have in common and go on behind.
    figures = 20
    while True:
        tiny = Fraction(1, 10 ** figures)
        value = close_value(root, figures)
        rows = (row_of_value(value - tiny), row_of_value(value + tiny))
        common = 0
        while common < min(len(rows[0]), len(rows[1])) - 1 and rows[0][common] == rows[1][common]:
            common += 1
        if common >= count:
            return tuple(rows[0][:count])
        figures *= 2
