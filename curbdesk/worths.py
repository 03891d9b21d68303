"""Worths: sums of coefficients times values, by which answers are compared (point 33)."""

from curbdesk.errors import RepeatedName, UnknownName


def checked_worth(puzzle, worth):
    """Return the worth as a list of pairs; its names are names of the puzzle, and none occurs twice."""
    earlier = set()
    for _, name in worth:
        if name not in puzzle:
            raise UnknownName(name)
        if name in earlier:
            raise RepeatedName(name)
        earlier.add(name)
    return [(coefficient, name) for coefficient, name in worth]


def worth_of(worth, values):
    """Return the worth of the assignment."""
    return sum([coefficient * values[name] for coefficient, name in worth])


def best_in(worth, box, *, greatest=False):
    """Return the least, or the greatest, worth of the assignments that the box holds."""
    total = 0
    for coefficient, name in worth:
        parts = [coefficient * value for value in box[name]]
        total = total + (max(parts) if greatest else min(parts))
    return total


def is_better(one, other, greatest):
    """Tell whether the first of two worths is the better one."""
    return one > other if greatest else one < other
