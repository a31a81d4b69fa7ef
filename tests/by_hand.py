"""What several tests reckon by hand of roots, without the program."""

import itertools
import math
from fractions import Fraction


def heart(a, b, c):
    return b * b - 4 * a * c


def has_roots(a, b, c):
    n = heart(a, b, c)
    return a != 0 and n > 0 and math.isqrt(n) ** 2 != n


def root_by_hand(a, b, c, side):
    common = math.gcd(a, b, c) if a > 0 else -math.gcd(a, b, c)
    return (a // common, b // common, c // common, side)


def is_greater(root, value):
    # Between both roots the equation comes to less than 0; the middle of both is where 2ax + b is 0.
    a, b, c, side = root
    at_value = a * value * value + b * value + c
    ahead_of_the_middle = 2 * a * value + b < 0
    if side == 1:
        return at_value < 0 or ahead_of_the_middle
    return at_value > 0 and ahead_of_the_middle


def close_value(root, figures):
    a, b, c, side = root
    scale = 10 ** figures
    spread = math.isqrt(heart(a, b, c) * scale * scale)
    return Fraction((spread if side == 1 else -spread) - b * scale, 2 * a * scale)


def small_roots(bound):
    places = range(-bound, bound + 1)
    return [
        (a, b, c, side)
        for a, b, c in itertools.product(range(1, bound + 1), places, places)
        if has_roots(a, b, c) and math.gcd(a, b, c) == 1
        for side in (0, 1)
    ]


def root_by_chance(chance, bound):
    while True:
        a, b, c = [chance.randint(-bound, bound) for place in range(3)]
        if has_roots(a, b, c):
            return root_by_hand(a, b, c, chance.randint(0, 1))
