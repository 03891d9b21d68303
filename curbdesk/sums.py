"""Rules that bound a sum (points 14, 15 and 17)."""

from curbdesk.errors import BadBounds
from curbdesk.layers import live_layers, next_layer, sum_layers, within_bounds
from curbdesk.rules import checked_names, first_empty, shows_empty
from curbdesk.sides import is_within


class Sum:
    """A rule that allows the assignments whose total is within two bounds."""

    def __init__(self, terms, *, low=None, high=None):
        self.names = checked_names([name for _, name in terms])
        if low is not None and high is not None and low > high:
            raise BadBounds(low, high)
        self.terms = tuple([(coefficient, name) for coefficient, name in terms])
        self.low = low
        self.high = high

    def allows(self, values):
        """Tell whether the rule allows the assignment."""
        total = sum([coefficient * values[name] for coefficient, name in self.terms])
        return within_bounds(total, self.low, self.high)

    def witness(self, box):
        """Return the first allowed assignment in the box, or None."""
        live = self._live(box)
        if len(live[0]) == 0:
            return None
        values = {}
        number = 0
        for (coefficient, name), onward in zip(self.terms, live[1:]):
            leading = [value for value in box[name] if number + coefficient * value in onward]
            values[name] = leading[0]
            number = number + coefficient * leading[0]
        return values

    def supported(self, box, name):
        """Return the values that the name takes in the allowed assignments in the box."""
        others = [(coefficient, other) for coefficient, other in self.terms if other != name]
        totals = sum_layers(others, box)[-1]
        coefficient = self.terms[self.names.index(name)][0]
        return [value for value in box[name] if self._reaches(totals, coefficient * value)]

    def certificate(self, box):
        """Return what shows that the box is bare, or None if it is not."""
        if self.witness(box) is not None:
            return None
        name = first_empty(self.names, box)
        if name is not None:
            return ("empty", name)
        return ("layers", sum_layers(self.terms, box))

    def accepts(self, box, certificate):
        """Tell whether the certificate shows that the box is bare."""
        word, content = certificate
        if word == "empty":
            return shows_empty(self.names, box, content)
        return word == "layers" and self._excludes(box, content)

    def _live(self, box):
        return live_layers(self.terms, box, low=self.low, high=self.high)

    def _reaches(self, totals, part):
        """Tell whether one of the totals, which ascend, is within the bounds together with this part."""
        for total in totals:
            if self.low is None or self.low <= total + part:
                return within_bounds(total + part, self.low, self.high)
        return False

    def _excludes(self, box, layers):
        """Tell whether the layers have all sums of the box, and no total within the bounds."""
        if len(layers) != len(self.terms) + 1 or 0 not in layers[0]:
            return False
        for place, (coefficient, name) in enumerate(self.terms):
            if not is_within(next_layer(layers[place], coefficient, box[name]), layers[place + 1]):
                return False
        return not any([within_bounds(total, self.low, self.high) for total in layers[-1]])
