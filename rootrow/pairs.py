"""Pairs (x, y) of whole numbers from 1 on: x times x is one more, or one less, than d times y times y."""

from rootrow.errors import NoNumber
from rootrow.roots import is_square
from rootrow.rounds import rounds_of
from rootrow.rows import fraction_of


def ask_no_square(d):
    if d < 2 or is_square(d):
        raise NoNumber("d is below 2 or a square")


def pair_of_round(d):
    # The row of the root of d, up to the last part of its first round, is the first fraction whose squares
    # differ by one as told: one less where the round has an odd number of parts, else one more.
    row = rounds_of((1, 0, -d, 1))
    again = row[1]
    return (fraction_of(row[0] + again[:-1]), len(again) % 2 == 1)


def put_together(d, one, other):
    return (one[0] * other[0] + d * one[1] * other[1], one[0] * other[1] + one[1] * other[0])


def least_pair(d):
    ask_no_square(d)
    first = pair_of_round(d)
    pair = first[0]
    if first[1]:
        # Two of one less, put together, are one more.
        return put_together(d, pair, pair)
    return pair


def least_minus(d):
    ask_no_square(d)
    first = pair_of_round(d)
    return first[0] if first[1] else None


def pair_at(d, k):
    if k < 1:
        raise NoNumber("pairs are counted from 1 on")
    # The k-th is the first put together k times; by doubling, few steps lead there.
    doubled = least_pair(d)
    pair = (1, 0)
    left = k
    while left > 0:
        if left % 2 == 1:
            pair = put_together(d, pair, doubled)
        doubled = put_together(d, doubled, doubled)
        left = left // 2
    return pair
