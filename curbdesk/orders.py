"""Orders of the names of a puzzle, and of its assignments (point 27)."""

from curbdesk.errors import BadOrder


def checked_order(puzzle, order):
    """Return the order as a list; it has each name of the puzzle once, or is None."""
    if order is None:
        return list(puzzle.names)
    if sorted(order) != sorted(puzzle.names):
        raise BadOrder(order)
    return list(order)


def precedes(first, second, order, *, greatest_first=False):
    """Tell whether the first assignment precedes the second one in the order."""
    for name in order:
        if first[name] != second[name]:
            return (first[name] > second[name]) == greatest_first
    return False


def in_order(answers, order, *, greatest_first=False):
    """Return the assignments so that none precedes one that stands before it."""
    sign = -1 if greatest_first else 1
    copies = [dict(values) for values in answers]
    return sorted(copies, key=lambda answer: [sign * answer[name] for name in order])
