"""Boxes: dictionaries from names to sides, and their forms in domains (points 5 to 8)."""

from curbdesk.errors import RepeatedName, UnknownName
from curbdesk.sides import common, is_within, side_of, united


def room(box):
    """Return the product of the numbers of values of the sides that the box lists."""
    count = 1
    for side in box.values():
        count = count * len(side)
    return count


def holds(box, values):
    """Tell whether the box holds the assignment."""
    for name, side in box.items():
        if values[name] not in side:
            return False
    return True


def box_within(inner, outer):
    """Tell whether `inner` lists every name that `outer` lists, each with a side within its side."""
    for name, side in outer.items():
        if name not in inner or not is_within(inner[name], side):
            return False
    return True


def domains_of(pairs):
    """Return domains for pairs of a name and integers in any order; no name occurs twice."""
    earlier = set()
    for name, _ in pairs:
        if name in earlier:
            raise RepeatedName(name)
        earlier.add(name)
    return [(name, side_of(values)) for name, values in pairs]


def copied_box(box):
    """Return a new box with new sides that equals the box."""
    return {name: list(side) for name, side in box.items()}


def filled(box, domains):
    """Return the filled form of the box: with a side for each name of the domains."""
    _check_names(box, domains)
    form = {}
    for name, domain in domains:
        form[name] = common(box[name], domain) if name in box else list(domain)
    return form


def trimmed(box, domains):
    """Return the trimmed form of the box: only the names that it restricts within the domains."""
    form = filled(box, domains)
    return {name: form[name] for name, domain in domains if form[name] != domain}


def _check_names(box, domains):
    known = {name for name, _ in domains}
    for name in box:
        if name not in known:
            raise UnknownName(name)


def meet_boxes(first, second):
    """Return the meet of two boxes."""
    meet = copied_box(first)
    for name, side in second.items():
        meet[name] = common(first[name], side) if name in first else list(side)
    return meet


def join_boxes(first, second, name):
    """Return the join of two boxes on the name."""
    joined = meet_boxes(first, second)
    if name in first and name in second:
        joined[name] = united(first[name], second[name])
    elif name in joined:
        # One of the two boxes lets the name take any value, and so does their join.
        del joined[name]
    return joined
