"""Rules that allow exactly their rows (points 14 to 16)."""

from curbdesk.rules import checked_names, checked_rows, first_empty, row_of, row_within, shows_empty
from curbdesk.sides import side_of


class Table:
    """A rule that allows the assignments that equal one of its rows."""

    def __init__(self, names, rows):
        self.names = checked_names(names)
        self.rows = checked_rows(self.names, rows)

    def allows(self, values):
        """Tell whether the rule allows the assignment."""
        return row_of(self.names, values) in self.rows

    def witness(self, box):
        """Return the first allowed assignment in the box, or None."""
        rows = self._rows_in(box)
        if len(rows) == 0:
            return None
        return dict(zip(self.names, min(rows)))

    def supported(self, box, name):
        """Return the values that the name takes in the allowed assignments in the box."""
        place = self.names.index(name)
        return side_of([row[place] for row in self._rows_in(box)])

    def certificate(self, box):
        """Return what shows that the box is bare, or None if it is not."""
        if self.witness(box) is not None:
            return None
        name = first_empty(self.names, box)
        if name is not None:
            return ("empty", name)
        return ("blame", [self._blamed(row, box) for row in self.rows])

    def accepts(self, box, certificate):
        """Tell whether the certificate shows that the box is bare."""
        word, content = certificate
        if word == "empty":
            return shows_empty(self.names, box, content)
        return word == "blame" and self._blames(box, content)

    def _rows_in(self, box):
        return [row for row in self.rows if row_within(self.names, row, box)]

    def _blamed(self, row, box):
        """Return the first name for which the row's value is not in the box, or None."""
        for name, value in zip(self.names, row):
            if value not in box[name]:
                return name
        return None

    def _blames(self, box, names):
        """Tell whether the list has, for each row, a name that keeps the row out of the box."""
        if len(names) != len(self.rows):
            return False
        for name, row in zip(names, self.rows):
            if name not in self.names or row[self.names.index(name)] in box[name]:
                return False
        return True
