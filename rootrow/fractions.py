"""Fractions as pairs (upper, lower) in lowest terms, and whole square roots."""

from rootrow.errors import NoNumber


def is_whole(thing):
    # Python counts True and False as ints; the program does not.
    return isinstance(thing, int) and not isinstance(thing, bool)


def common_divisor(one, other):
    greater = abs(one)
    lesser = abs(other)
    while lesser != 0:
        rest = greater % lesser
        greater = lesser
        lesser = rest
    return greater


def is_fraction(thing):
    if not isinstance(thing, tuple) or len(thing) != 2:
        return False
    upper = thing[0]
    lower = thing[1]
    if not is_whole(upper) or not is_whole(lower):
        return False
    return lower > 0 and common_divisor(upper, lower) == 1


def lowest(upper, lower):
    if lower == 0:
        raise NoNumber("nothing can be divided by 0")
    divisor = common_divisor(upper, lower)
    if lower < 0:
        # A divisor below 0 turns both signs, so that the lower number ends above 0.
        divisor = -divisor
    return (upper // divisor, lower // divisor)


def least_square(n):
    # From a guess that is too great, each step comes down without ever passing the answer:
    # the mean of guess and n // guess is never below the root of n.
    guess = 1 << ((n.bit_length() + 1) // 2)
    # Asking guess > 0 changes nothing for n from 0 on; below, it makes the loop end.
    while guess > 0 and guess * guess > n:
        guess = (guess + n // guess) // 2
    return guess
