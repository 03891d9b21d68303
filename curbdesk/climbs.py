"""Climbs: from the least values of sides to the least values that meet all edges (point 18)."""

from curbdesk.sides import next_value


def edge_names(edges):
    """Return the names of the edges in the order of their first occurrence."""
    names = []
    for first, second, _ in edges:
        for name in (first, second):
            if name not in names:
                names.append(name)
    return names


def least_values(names, box):
    """Return the values with which a climb starts; no side is empty."""
    return {name: box[name][0] for name in names}


def step_value(edge, values, box):
    """Return the value of the edge's second name after a step, or None if the climb breaks there."""
    first, second, gap = edge
    return next_value(box[second], max(values[second], values[first] - gap))


def climbed(edges, box, start, moved):
    """Climb from values of which at most the moved names do not meet the edges that begin at them.

    Return a pair: the values that meet all edges, or None if the climb breaks; and the steps of the climb.
    """
    leaving = {name: [] for name in start}
    for position, edge in enumerate(edges):
        leaving[edge[0]].append(position)
    values = dict(start)
    waiting = list(moved)
    steps = []
    while len(waiting) > 0:
        name = waiting.pop(0)
        for position in leaving[name]:
            second = edges[position][1]
            value = step_value(edges[position], values, box)
            if value is None:
                return (None, steps + [position])
            if value > values[second]:
                values[second] = value
                steps.append(position)
                if second not in waiting:
                    waiting.append(second)
    return (values, steps)


def least_climb(edges, box):
    """Return the least values that meet all edges, or a climb that shows that there are none."""
    names = edge_names(edges)
    values, steps = climbed(edges, box, least_values(names, box), names)
    if values is None:
        return ("over", steps)
    return ("least", values)
