"""Ways down the tree of all fractions above 0, as tuples of steps 0 and 1."""

from rootrow.errors import NoNumber
from rootrow.rows import row_of


def middle(low, high):
    return (low[0] + high[0], low[1] + high[1])


def way_to(fraction):
    if fraction[0] < 1:
        raise NoNumber("the tree holds only fractions above 0")
    # Each part of the row tells how many like steps follow one another, the first of them upward.
    steps = []
    step = 1
    for part in row_of(fraction):
        steps.extend([step] * part)
        step = 1 - step
    # The top is 1 and not 0, so the row counts one step more than the way has.
    return tuple(steps[:-1])


def fraction_at(way):
    low = (0, 1)
    high = (1, 0)
    place = (1, 1)
    for step in way:
        if step == 0:
            high = place
        else:
            low = place
        # Middles in this tree never have a common divisor above 1, so nothing has to be taken out.
        place = middle(low, high)
    return place
