"""Fractions that are simplest between two numbers, nearest to one, or all from one to another."""

from rootrow.errors import NoNumber
from rootrow.fractions import lowest
from rootrow.ordering import compare
from rootrow.roots import led_to, part_of
from rootrow.rows import fraction_of

ZERO = (0, 1)


def mirrored(number):
    if len(number) == 2:
        return (-number[0], number[1])
    # The greater of two numbers is the lesser one of the two with their signs turned.
    return (number[0], -number[1], number[2], 1 - number[3])


def simplest_above(low, high):
    # For low from 0 on; high may be None, which stands for no bound.
    parts = []
    part = part_of(low)
    while high is not None and compare((part + 1, 1), high) >= 0:
        # No whole number lies between, so all that does begins with the same part,
        # and what is simplest behind it, between the bounds turned about, is simplest here too.
        parts.append(part)
        next_high = led_to(low, part)
        low = led_to(high, part)
        high = next_high
        part = part_of(low)
    parts.append(part + 1)
    return fraction_of(tuple(parts))


def simplest(low, high):
    if compare(low, high) >= 0:
        raise NoNumber("nothing lies between, the low number is not less than the high one")
    if compare(low, ZERO) >= 0:
        return simplest_above(low, high)
    if compare(high, ZERO) > 0:
        return ZERO
    return mirrored(simplest_above(mirrored(high), mirrored(low)))


def around(number, most):
    # The next fractions below and above, for a number that is no fraction with a lower number up to most.
    last = (1, 0)
    place = (part_of(number), 1)
    rest = led_to(number, place[0])
    last_is_above = True
    while True:
        part = part_of(rest)
        times = min(part, (most - last[1]) // place[1])
        step = (last[0] + times * place[0], last[1] + times * place[1])
        if times < part:
            break
        # A whole part leads across the number, to the side where place does not lie.
        last = place
        place = step
        rest = led_to(rest, part)
        last_is_above = not last_is_above
    return (place, step) if last_is_above else (step, place)


def half_way(low, high):
    return lowest(low[0] * high[1] + high[0] * low[1], 2 * low[1] * high[1])


def nearest(number, most):
    if len(number) == 2 and number[1] <= most:
        return number
    beside = around(number, most)
    low = beside[0]
    high = beside[1]
    order = compare(number, half_way(low, high))
    if order == 0:
        # Two that follow one another have like lower numbers only where both are whole.
        return low if low[1] <= high[1] else high
    return low if order < 0 else high


def just_below(fraction, most):
    # Fractions differ by at least 1 divided by the product of their lower numbers, so going down half of that
    # passes none with a lower number up to most, and lands on none.
    return lowest(2 * most * fraction[0] - 1, 2 * most * fraction[1])


def following(before, place, most):
    # Upper and lower number of both, taken crosswise, differ by 1; so they do for place and what is told,
    # and no greater lower number up to most does it.
    times = (most + before[1]) // place[1]
    return (times * place[0] - before[0], times * place[1] - before[1])


def between(low, high, most):
    if most < 1:
        return ()
    beside = around(just_below(low, most), most)
    before = beside[0]
    place = beside[1]
    found = []
    while compare(place, high) <= 0:
        found.append(place)
        after = following(before, place, most)
        before = place
        place = after
    return tuple(found)
