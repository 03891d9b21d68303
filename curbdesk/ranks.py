"""The assignments of domains and their numbers (point 9)."""

from curbdesk.boxes import room
from curbdesk.errors import BadNumber, UnknownValue


def assignment_at(domains, number):
    """Return the assignment of the domains that has this number."""
    block = room(dict(domains))
    if number < 0 or number >= block:
        raise BadNumber(number)
    values = {}
    for name, side in domains:
        # From here on, so many assignments share one value of this name.
        block = block // len(side)
        values[name] = side[number // block % len(side)]
    return values


def number_of(domains, values):
    """Return the number of the assignment among the assignments of the domains."""
    number = 0
    for name, side in domains:
        value = values[name]
        if value not in side:
            raise UnknownValue(name, value)
        number = number * len(side) + side.index(value)
    return number
