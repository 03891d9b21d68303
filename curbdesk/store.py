"""A store of sides with a trail of strikes, and marks to go back to (point 21)."""

from curbdesk.boxes import copied_box, domains_of
from curbdesk.errors import NoMark, UnknownName, UnknownValue
from curbdesk.sides import united, without


class Store:
    """The sides of names: their domains without the values that have been struck."""

    def __init__(self, domains):
        pairs = domains_of(domains)
        self.names = tuple([name for name, _ in pairs])
        self._domains = dict(pairs)
        self._sides = copied_box(self._domains)
        self._trail = []
        self._places = {}
        self._marks = []

    @property
    def level(self):
        """The number of marks."""
        return len(self._marks)

    def side(self, name):
        """Return the side of the name."""
        self._check_name(name)
        return list(self._sides[name])

    def box(self):
        """Return the box of all sides."""
        return copied_box(self._sides)

    def strike(self, name, value, *, note=None):
        """Strike the value and return True, or return False if it is struck already."""
        if self.place(name, value) is not None:
            return False
        self._places[(name, value)] = len(self._trail)
        self._trail.append((name, value, note))
        self._sides[name] = without(self._sides[name], [value])
        return True

    def keep(self, name, side, *, note=None):
        """Strike every value of the name's side that `side` lacks, and return their number."""
        lacking = without(self.side(name), side)
        for value in lacking:
            self.strike(name, value, note=note)
        return len(lacking)

    def mark(self):
        """Set a mark and return the new level."""
        self._marks.append(len(self._trail))
        return self.level

    def undo(self):
        """Undo the last mark and return the number of strikes that this takes back."""
        if self.level == 0:
            raise NoMark(0)
        return self.back_to(self.level - 1)

    def back_to(self, level):
        """Undo the last marks down to the level and return the number of strikes that this takes back."""
        if level < 0 or level > self.level:
            raise NoMark(level)
        if level == self.level:
            return 0
        length = self._marks[level]
        taken = self._trail[length:]
        for name, value, _ in taken:
            self._sides[name] = united(self._sides[name], [value])
            del self._places[(name, value)]
        del self._trail[length:]
        del self._marks[level:]
        return len(taken)

    def trail(self):
        """Return the strikes in order, as triples of name, value and note."""
        return list(self._trail)

    def marks(self):
        """Return, for each mark from the oldest one, the number of strikes before it."""
        return list(self._marks)

    def place(self, name, value):
        """Return the position of the strike in the trail, or None if the value is not struck."""
        self._check_name(name)
        if value not in self._domains[name]:
            raise UnknownValue(name, value)
        return self._places.get((name, value))

    def _check_name(self, name):
        if name not in self._domains:
            raise UnknownName(name)
