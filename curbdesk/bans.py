"""Rules that allow everything but their rows (points 14 to 16)."""

from curbdesk.boxes import room
from curbdesk.ranks import assignment_at
from curbdesk.rules import checked_names, checked_rows, first_empty, restricted, row_of, row_within, shows_empty


class Ban:
    """A rule that allows the assignments that equal none of its rows."""

    def __init__(self, names, rows):
        self.names = checked_names(names)
        self.rows = checked_rows(self.names, rows)

    def allows(self, values):
        """Tell whether the rule allows the assignment."""
        return row_of(self.names, values) not in self.rows

    def witness(self, box):
        """Return the first allowed assignment in the box, or None."""
        sides = restricted(self.names, box)
        domains = list(sides.items())
        # One more assignment than there are rows: the rows cannot ban all of these.
        for number in range(min(room(sides), len(self.rows) + 1)):
            values = assignment_at(domains, number)
            if self.allows(values):
                return values
        return None

    def supported(self, box, name):
        """Return the values that the name takes in the allowed assignments in the box."""
        place = self.names.index(name)
        banned = [self.rows[position][place] for position in self._positions_in(box)]
        # A value is supported if the rows ban fewer assignments with it than the box has.
        others = room(restricted([other for other in self.names if other != name], box))
        return [value for value in box[name] if banned.count(value) < others]

    def certificate(self, box):
        """Return what shows that the box is bare, or None if it is not."""
        if self.witness(box) is not None:
            return None
        name = first_empty(self.names, box)
        if name is not None:
            return ("empty", name)
        return ("full", self._positions_in(box))

    def accepts(self, box, certificate):
        """Tell whether the certificate shows that the box is bare."""
        word, content = certificate
        if word == "empty":
            return shows_empty(self.names, box, content)
        return word == "full" and self._fills(box, content)

    def _positions_in(self, box):
        """Return the positions of the rows in the box, of equal rows the first one only."""
        earlier = set()
        positions = []
        for position, row in enumerate(self.rows):
            if row not in earlier and row_within(self.names, row, box):
                earlier.add(row)
                positions.append(position)
        return positions

    def _fills(self, box, positions):
        """Tell whether the list names a different row for each assignment in the box."""
        if len(positions) != room(restricted(self.names, box)):
            return False
        earlier = set()
        for position in positions:
            if position < 0 or position >= len(self.rows):
                return False
            row = self.rows[position]
            if row in earlier or not row_within(self.names, row, box):
                return False
            earlier.add(row)
        return True
