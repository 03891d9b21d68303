"""Sides: lists of integers in ascending order without duplicates (point 4)."""


def side_of(values):
    """Return the side with the integers of a list in any order, with or without duplicates."""
    return sorted(set(values))


def common(first, second):
    """Return the side of the values that both sides contain."""
    return sorted(set(first) & set(second))


def united(first, second):
    """Return the side of the values that at least one of the two sides contains."""
    return sorted(set(first) | set(second))


def without(first, second):
    """Return the side of the values of the first side that the second one does not contain."""
    return sorted(set(first) - set(second))


def is_within(first, second):
    """Tell whether the second side contains every value of the first one."""
    return len(set(first) - set(second)) == 0


def next_value(side, least):
    """Return the smallest value of the side that is not below `least`, or None."""
    for value in side:
        if value >= least:
            return value
    return None
