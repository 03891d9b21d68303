"""The largest boxes of which a list of boxes holds every assignment (point 12)."""

from curbdesk.sides import side_of


def largest_boxes(boxes):
    """Return the covered boxes that are not within another one, ordered by their sides."""
    if len(boxes) == 0:
        return []
    names = sorted(boxes[0])
    held = _held_points(boxes, names)
    wholes = [side_of([point[place] for point in held]) for place in range(len(names))]
    found = []
    for choice in _choices(wholes[:-1]):
        # All sides but the last one leave no choice for the last one of a largest box.
        last = [value for value in wholes[-1] if _all_held(held, choice + [[value]])]
        if len(last) > 0 and not _can_grow(held, wholes, choice + [last]):
            found.append(choice + [last])
    return [_box_of(names, sides) for sides in sorted(found)]


def _held_points(boxes, names):
    """Return a dictionary that has the values of each assignment that some box holds."""
    held = {}
    for box in boxes:
        for point in _points([box[name] for name in names]):
            held[point] = True
    return held


def _points(sides):
    """Return all tuples with one value of each side."""
    points = [()]
    for side in sides:
        points = [point + (value,) for point in points for value in side]
    return points


def _choices(wholes):
    """Return all lists with one part of each whole side, none of the parts empty."""
    choices = [[]]
    for whole in wholes:
        parts = _parts(whole)
        choices = [choice + [part] for choice in choices for part in parts]
    return choices


def _parts(whole):
    parts = [[]]
    for value in whole:
        parts = parts + [part + [value] for part in parts]
    return parts[1:]


def _all_held(held, sides):
    return all([point in held for point in _points(sides)])


def _can_grow(held, wholes, sides):
    """Tell whether one more value of some name leads to a larger box that is covered, too."""
    for place, whole in enumerate(wholes):
        for value in whole:
            slab = sides[:place] + [[value]] + sides[place + 1:]
            if value not in sides[place] and _all_held(held, slab):
                return True
    return False


def _box_of(names, sides):
    return {name: list(side) for name, side in zip(names, sides)}
