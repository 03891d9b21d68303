"""Rules that keep values apart (points 14, 15 and 20)."""

from curbdesk.fits import choices, first_choice, full_fit
from curbdesk.rules import checked_names, first_empty, is_crowd, restricted, row_of, shows_empty, union_of
from curbdesk.sides import side_of


class Unlike:
    """A rule that allows the assignments in which no two names have the same value."""

    def __init__(self, names):
        self.names = checked_names(names)

    def allows(self, values):
        """Tell whether the rule allows the assignment."""
        return len(side_of(row_of(self.names, values))) == len(self.names)

    def witness(self, box):
        """Return the first allowed assignment in the box, or None."""
        return first_choice(restricted(self.names, box), self._ones(box), {})

    def supported(self, box, name):
        """Return the values that the name takes in the allowed assignments in the box."""
        return choices(restricted(self.names, box), self._ones(box), {}, name)

    def certificate(self, box):
        """Return what shows that the box is bare, or None if it is not."""
        name = first_empty(self.names, box)
        if name is not None:
            return ("empty", name)
        word, content = full_fit(restricted(self.names, box), self._ones(box))
        return ("crowd", content) if word == "crowd" else None

    def accepts(self, box, certificate):
        """Tell whether the certificate shows that the box is bare."""
        word, content = certificate
        if word == "empty":
            return shows_empty(self.names, box, content)
        return word == "crowd" and is_crowd(self.names, box, self._ones(box), content)

    def _ones(self, box):
        """Return how many names may take each value of the sides: one."""
        return {value: 1 for value in union_of(self.names, box)}
