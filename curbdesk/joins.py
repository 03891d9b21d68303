"""What two boxes cover together, and going back through a trail by joins (points 10 and 13)."""

from curbdesk.boxes import join_boxes, room, trimmed
from curbdesk.errors import NotStruck, UnknownName
from curbdesk.sides import common, without


def covered_by_two(first, second, box):
    """Tell how two boxes cover a third one, or which of its assignments they leave out."""
    beyond_first = _values_beyond(box, first)
    beyond_second = _values_beyond(box, second)
    if room(box) == 0 or len(beyond_first) == 0:
        return ("first", None)
    if len(beyond_second) == 0:
        return ("second", None)
    outside = _outside_values(beyond_first, beyond_second)
    if outside is None:
        # Then both boxes leave out values of one name only, the same one, and never the same value.
        return ("join", list(beyond_first)[0])
    values = {name: side[0] for name, side in box.items()}
    values.update(outside)
    return ("outside", values)


def _values_beyond(box, cover):
    """Return, for each name where the box goes beyond the cover, the values with which it does."""
    beyond = {}
    for name, side in box.items():
        values = without(side, cover[name])
        if len(values) > 0:
            beyond[name] = values
    return beyond


def _outside_values(beyond_first, beyond_second):
    """Return values of one or two names that lead out of both boxes, or None if there are none."""
    for name, side in beyond_first.items():
        for other, other_side in beyond_second.items():
            if name != other:
                return {name: side[0], other: other_side[0]}
            both = common(side, other_side)
            if len(both) > 0:
                return {name: both[0]}
    return None


def join_back(domains, trail, name):
    """Go back through the trail from the box without values for `name`, joining its reasons."""
    _check_all_struck(domains, trail, name)
    box = {name: []}
    joined = []
    for position in reversed(range(len(trail))):
        struck, value, reason = trail[position]
        if reason is not None and struck in box and value not in box[struck]:
            box = join_boxes(box, reason, struck)
            joined.append(position)
    return (trimmed(box, domains), joined)


def _check_all_struck(domains, trail, name):
    sides = dict(domains)
    if name not in sides:
        raise UnknownName(name)
    struck = {(strike[0], strike[1]) for strike in trail}
    for value in sides[name]:
        if (name, value) not in struck:
            raise NotStruck(name, value)
