"""Rules that bound differences (points 14, 15 and 18)."""

from curbdesk.climbs import climbed, edge_names, least_climb, least_values, step_value
from curbdesk.rules import checked_names, first_empty, shows_empty
from curbdesk.sides import next_value


class Ring:
    """A rule that allows the assignments that meet all of its edges."""

    def __init__(self, edges):
        self.names = checked_names(edge_names(edges))
        self.edges = tuple([(first, second, gap) for first, second, gap in edges])

    def allows(self, values):
        """Tell whether the rule allows the assignment."""
        return all([values[first] - values[second] <= gap for first, second, gap in self.edges])

    def witness(self, box):
        """Return the first allowed assignment in the box, or None."""
        if first_empty(self.names, box) is not None:
            return None
        word, content = least_climb(self.edges, box)
        return content if word == "least" else None

    def highest(self, box):
        """Return the allowed assignment in the box with the greatest values, or None."""
        if first_empty(self.names, box) is not None:
            return None
        # With all signs turned, each edge leads the other way, and the greatest values are the least.
        turned = [(second, first, gap) for first, second, gap in self.edges]
        mirror = {name: [-value for value in reversed(box[name])] for name in self.names}
        word, content = least_climb(turned, mirror)
        if word == "over":
            return None
        return {name: -value for name, value in content.items()}

    def supported(self, box, name):
        """Return the values that the name takes in the allowed assignments in the box."""
        kept = []
        values = self.witness(box)
        while values is not None:
            kept.append(values[name])
            further = next_value(box[name], values[name] + 1)
            if further is None:
                return kept
            # What has a greater value here has none below these, so the climb can go on from them.
            values[name] = further
            values, _ = climbed(self.edges, box, values, [name])
        return kept

    def certificate(self, box):
        """Return what shows that the box is bare, or None if it is not."""
        name = first_empty(self.names, box)
        if name is not None:
            return ("empty", name)
        word, content = least_climb(self.edges, box)
        return ("climb", content) if word == "over" else None

    def accepts(self, box, certificate):
        """Tell whether the certificate shows that the box is bare."""
        word, content = certificate
        if word == "empty":
            return shows_empty(self.names, box, content)
        return word == "climb" and self._breaks(box, content)

    def _breaks(self, box, steps):
        """Tell whether the climb with these steps breaks at the last one and not before."""
        if first_empty(self.names, box) is not None:
            return False
        values = least_values(self.names, box)
        for place, position in enumerate(steps):
            if position < 0 or position >= len(self.edges):
                return False
            value = step_value(self.edges[position], values, box)
            if value is None:
                return place + 1 == len(steps)
            values[self.edges[position][1]] = value
        return False
