"""What edges allow by themselves, without a box (point 18)."""

from curbdesk.climbs import edge_names


def loosest(edges):
    """Return the greatest values up to 0 that meet all edges, or a cycle of edges that nothing meets."""
    names = edge_names(edges)
    values = {name: 0 for name in names}
    lowered_by = {}
    lowered = None
    for _ in names:
        lowered = None
        for position, (first, second, gap) in enumerate(edges):
            if values[first] > values[second] + gap:
                values[first] = values[second] + gap
                lowered_by[first] = position
                lowered = first
        if lowered is None:
            break
    if lowered is None:
        return ("values", values)
    # A name that is lowered in as many rounds as there are names has a cycle of lowerings behind it.
    return ("cycle", _cycle_behind(edges, lowered_by, lowered))


def _cycle_behind(edges, lowered_by, name):
    """Go back from the name, from each edge to the one that lowered its second name, into a cycle."""
    way = []
    while lowered_by[name] not in way:
        way.append(lowered_by[name])
        name = edges[lowered_by[name]][1]
    return way[way.index(lowered_by[name]):]
