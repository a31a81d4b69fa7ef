"""Roots (a, b, c, side): the greater (1) or the lesser (0) number that solves a square equation."""

from rootrow.errors import NoNumber
from rootrow.fractions import common_divisor, is_whole, least_square


def heart_of(a, b, c):
    return b * b - 4 * a * c


def is_square(n):
    return least_square(n) ** 2 == n


def divisor_of_all(a, b, c):
    return common_divisor(common_divisor(a, b), c)


def is_root(thing):
    if not isinstance(thing, tuple) or len(thing) != 4:
        return False
    if not all([is_whole(part) for part in thing]):
        return False
    a = thing[0]
    b = thing[1]
    c = thing[2]
    if a < 1 or thing[3] not in (0, 1) or divisor_of_all(a, b, c) != 1:
        return False
    heart = heart_of(a, b, c)
    return heart > 0 and not is_square(heart)


def root_of(a, b, c, side):
    if a == 0:
        raise NoNumber("a is 0, so the equation is no square one")
    heart = heart_of(a, b, c)
    if heart < 0 or is_square(heart):
        raise NoNumber("the heart is below 0 or a square")
    divisor = divisor_of_all(a, b, c)
    if a < 0:
        # A divisor below 0 turns all signs, so that a ends above 0.
        divisor = -divisor
    return (a // divisor, b // divisor, c // divisor, side)


def other_root(root):
    return (root[0], root[1], root[2], 1 - root[3])


def part_of(number):
    if len(number) == 2:
        return number[0] // number[1]
    a = number[0]
    b = number[1]
    whole = least_square(heart_of(a, b, number[2]))
    if number[3] == 0:
        # The heart is no square, so its root, taken with the sign below 0, lies above -whole - 1 and below -whole.
        whole = -whole - 1
    return (whole - b) // (2 * a)


def turned(root, n):
    a = root[0]
    b = root[1]
    side = root[3]
    # What the equation comes to at n is above 0 just if n does not lie between both roots.
    at_n = a * n * n + b * n + root[2]
    if at_n > 0:
        # Both roots less n have one sign, so dividing 1 by them turns their order about.
        side = 1 - side
    return root_of(at_n, 2 * a * n + b, a, side)


def led_to(number, n):
    # 1 divided by the number less n, for n no greater than the number; None where nothing is left to divide by.
    if len(number) == 4:
        return turned(number, n)
    rest = number[0] - n * number[1]
    return None if rest == 0 else (number[1], rest)
