"""Rules that bound how often values are taken (points 14, 15 and 20)."""

from curbdesk.errors import BadBounds, RepeatedValue
from curbdesk.fits import choices, first_choice, full_fit, wanted_fit
from curbdesk.rules import checked_names, first_empty, is_crowd, restricted, row_of, shows_empty
from curbdesk.sides import common


class Counts:
    """A rule that allows the assignments in which each limited value is taken neither too rarely nor too often."""

    def __init__(self, names, limits):
        self.names = checked_names(names)
        self.limits = _checked_limits(limits)

    def allows(self, values):
        """Tell whether the rule allows the assignment."""
        row = row_of(self.names, values)
        return all([low <= row.count(value) and row.count(value) <= high for value, low, high in self.limits])

    def witness(self, box):
        """Return the first allowed assignment in the box, or None."""
        return first_choice(restricted(self.names, box), self._highs(), self._lows())

    def supported(self, box, name):
        """Return the values that the name takes in the allowed assignments in the box."""
        return choices(restricted(self.names, box), self._highs(), self._lows(), name)

    def certificate(self, box):
        """Return what shows that the box is bare, or None if it is not."""
        name = first_empty(self.names, box)
        if name is not None:
            return ("empty", name)
        sides = restricted(self.names, box)
        word, content = full_fit(sides, self._highs())
        if word == "fit":
            word, content = wanted_fit(sides, self._lows())
        return (word, content) if word != "fit" else None

    def accepts(self, box, certificate):
        """Tell whether the certificate shows that the box is bare."""
        word, content = certificate
        if word == "empty":
            return shows_empty(self.names, box, content)
        if word == "crowd":
            return is_crowd(self.names, box, self._highs(), content)
        return word == "want" and self._wants(box, content)

    def _highs(self):
        return {value: high for value, _, high in self.limits}

    def _lows(self):
        return {value: low for value, low, _ in self.limits}

    def _wants(self, box, values):
        """Tell whether the values want more names than there are with one of them in their sides."""
        lows = self._lows()
        wanted = 0
        earlier = set()
        for value in values:
            if value not in lows or value in earlier:
                return False
            earlier.add(value)
            wanted = wanted + lows[value]
        able = [name for name in self.names if len(common(box[name], values)) > 0]
        return wanted > len(able)


def _checked_limits(limits):
    """Return the limits as a tuple of triples; their bounds are in order, and no value occurs twice."""
    earlier = set()
    for value, low, high in limits:
        if low < 0 or low > high:
            raise BadBounds(low, high)
        if value in earlier:
            raise RepeatedValue(value)
        earlier.add(value)
    return tuple([(value, low, high) for value, low, high in limits])
