"""Plans: step by step joins that lead from a list of boxes to a target (point 11)."""

from curbdesk.boxes import box_within, copied_box, holds, join_boxes, room
from curbdesk.errors import BadStep
from curbdesk.ranks import assignment_at


def join_plan(boxes, target):
    """Return a plan of joins that leads to the target, or an assignment of it outside all boxes."""
    values = _outside_values(boxes, target)
    if values is not None:
        return ("outside", values)
    known = list(boxes)
    steps = []
    number = _cover(known, steps, target)
    return ("plan", steps, number)


def _outside_values(boxes, target):
    """Return the first assignment of the target that no box holds, or None if there is none."""
    domains = list(target.items())
    for number in range(room(target)):
        values = assignment_at(domains, number)
        if not any([holds(box, values) for box in boxes]):
            return values
    return None


def _cover(known, steps, part):
    """Add the joins that a box around the part needs, and return that box's number.

    A part of room n needs fewer than n joins: each of its halves needs fewer than it has
    assignments, and one more join puts the two together.
    """
    number = _number_around(known, part)
    if number is not None:
        return number
    # A part with one assignment is within the box that holds it, so this one can be split.
    name = [name for name, side in part.items() if len(side) > 1][0]
    half = len(part[name]) // 2
    first = _cover(known, steps, {**part, name: part[name][:half]})
    second = _cover(known, steps, {**part, name: part[name][half:]})
    known.append(join_boxes(known[first], known[second], name))
    steps.append((name, first, second))
    return len(known) - 1


def _number_around(known, part):
    for number, box in enumerate(known):
        if box_within(part, box):
            return number
    return None


def run_plan(boxes, steps):
    """Return the boxes and then the join of each step, in the order of their numbers."""
    known = [copied_box(box) for box in boxes]
    for position, (name, first, second) in enumerate(steps):
        if min(first, second) < 0 or max(first, second) >= len(known):
            raise BadStep(position)
        known.append(join_boxes(known[first], known[second], name))
    return known
