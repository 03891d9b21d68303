"""What several kinds of rules share: checks of names and rows, and the certificates of more than one kind."""

from curbdesk.errors import BadRow, EmptyRule, RepeatedName
from curbdesk.sides import side_of


def checked_names(names):
    """Return the names of a rule as a tuple; there is at least one, and none occurs twice."""
    if len(names) == 0:
        raise EmptyRule()
    earlier = set()
    for name in names:
        if name in earlier:
            raise RepeatedName(name)
        earlier.add(name)
    return tuple(names)


def checked_rows(names, rows):
    """Return the rows of a rule as a tuple of tuples; each has one value for each name."""
    for row in rows:
        if len(row) != len(names):
            raise BadRow(tuple(row))
    return tuple([tuple(row) for row in rows])


def row_of(names, values):
    """Return the assignment's values for the names, in their order."""
    return tuple([values[name] for name in names])


def row_within(names, row, box):
    """Tell whether the row is an assignment of the names in the box."""
    for name, value in zip(names, row):
        if value not in box[name]:
            return False
    return True


def restricted(names, box):
    """Return the box's sides for the names, in the order of the names."""
    return {name: box[name] for name in names}


def first_empty(names, box):
    """Return the first of the names that has an empty side in the box, or None."""
    for name in names:
        if len(box[name]) == 0:
            return name
    return None


def shows_empty(names, box, name):
    """Tell whether `name` is one of the names and has an empty side in the box."""
    return name in names and len(box[name]) == 0


def union_of(names, box):
    """Return the side of the values that the side of at least one of the names contains."""
    return side_of([value for name in names for value in box[name]])


def is_crowd(names, box, highs, crowd):
    """Tell whether the sides of the crowd, some of the names, have too little room for it under `highs`."""
    earlier = set()
    for name in crowd:
        if name not in names or name in earlier:
            return False
        earlier.add(name)
    union = union_of(crowd, box)
    return all([value in highs for value in union]) and sum([highs[value] for value in union]) < len(crowd)
