"""Roots as rows that go round at last: a beginning, then a round over and over."""

from rootrow.errors import NoNumber
from rootrow.roots import led_to, part_of, root_of, turned


def rounds_of(root):
    parts = []
    places = {}
    place = root
    # A root has one row, so the row goes round just where a root comes again.
    while place not in places:
        places[place] = len(parts)
        part = part_of(place)
        parts.append(part)
        place = turned(place, part)
    begun = places[place]
    return (tuple(parts[:begun]), tuple(parts[begun:]))


def root_of_round(again):
    # With y behind all its parts the round is (upper * y + last_upper) divided by (lower * y + last_lower).
    upper = 1
    last_upper = 0
    lower = 0
    last_lower = 1
    for part in again:
        whole = part * upper + last_upper
        last_upper = upper
        upper = whole
        whole = part * lower + last_lower
        last_lower = lower
        lower = whole
    # The round begins anew behind itself, so y is what it comes to; one root lies above 0, the other one below.
    return root_of(lower, last_lower - upper, -last_upper, 1)


def put_ahead(part, root):
    # The part and 1 divided by the root: solved by x where 1 divided by (x less the part) solves the root's equation.
    about = turned(root, 0)
    a = about[0]
    b = about[1]
    return (a, b - 2 * a * part, a * part * part - b * part + about[2], about[3])


def root_by(ahead, again):
    if len(again) == 0 or again[0] < 1:
        raise NoNumber("a round has parts, and its first comes again behind others, so it is from 1 on")
    if any([part < 1 for part in (ahead + again)[1:]]):
        raise NoNumber("a part behind the first is below 1")
    root = root_of_round(again)
    for part in reversed(ahead):
        root = put_ahead(part, root)
    return root


def first_parts(number, count):
    parts = []
    rest = number
    while rest is not None and len(parts) < count:
        part = part_of(rest)
        parts.append(part)
        rest = led_to(rest, part)
    return tuple(parts)
