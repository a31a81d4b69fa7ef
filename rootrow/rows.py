"""Fractions as rows: a first part and, behind it, 1 divided by what the other parts stand for."""

from rootrow.errors import NoNumber


def row_of(fraction):
    upper = fraction[0]
    lower = fraction[1]
    parts = []
    while lower != 0:
        parts.append(upper // lower)
        rest = upper % lower
        upper = lower
        lower = rest
    return tuple(parts)


def fraction_of(row):
    if len(row) == 0:
        raise NoNumber("an empty row stands for no number")
    if any([part < 1 for part in row[1:]]):
        raise NoNumber("a part behind the first is below 1")
    # No common divisor can come in on the way from the last part to the first,
    # so nothing has to be taken out at the end.
    upper = row[-1]
    lower = 1
    for part in reversed(row[:-1]):
        whole = part * upper + lower
        lower = upper
        upper = whole
    return (upper, lower)
