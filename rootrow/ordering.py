"""The order of all numbers, fractions and roots, as their squares tell it."""

from rootrow.roots import heart_of


def sign_of(n):
    if n > 0:
        return 1
    if n < 0:
        return -1
    return 0


def signed_square(n):
    # Squares that keep the sign are ordered as the numbers themselves are.
    return n * abs(n)


def spread_out(number):
    # Each number is (middle + times * root of heart) divided by lower, lower above 0.
    if len(number) == 2:
        return (number[0], 0, 0, number[1])
    heart = heart_of(number[0], number[1], number[2])
    times = 1 if number[3] == 1 else -1
    return (-number[1], times, heart, 2 * number[0])


def sign_with_root(whole, times, heart):
    return sign_of(signed_square(whole) + signed_square(times) * heart)


def sign_with_two_roots(whole, times, heart, other_times, other_heart):
    sign = sign_of(signed_square(times) * heart + signed_square(other_times) * other_heart)
    # The two roots together, squared with their sign, are a whole number and just one root more.
    squares = times * times * heart + other_times * other_times * other_heart
    return sign_with_root(signed_square(whole) + sign * squares, sign * 2 * times * other_times, heart * other_heart)


def compare(one, other):
    first = spread_out(one)
    second = spread_out(other)
    # Both times both lower numbers, the other taken away from the one.
    whole = first[0] * second[3] - second[0] * first[3]
    times = first[1] * second[3]
    other_times = -second[1] * first[3]
    return sign_with_two_roots(whole, times, first[2], other_times, second[2])
