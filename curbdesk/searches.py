"""The search for answers, with decisions, bars and no-goods (point 39)."""

from curbdesk.courses import Course
from curbdesk.orders import checked_order
from curbdesk.roots import least_entries
from curbdesk.scribes import Scribe


class Search:
    """A search of a puzzle that tells one answer after another."""

    def __init__(self, puzzle, order, greatest_first, learn, restart_after):
        self._order = checked_order(puzzle, order)
        self._first = -1 if greatest_first else 0
        self._learn = learn
        self._restart_after = restart_after
        self._course = Course(puzzle)
        self._scribe = Scribe(puzzle)
        self._decisions = []
        self.answers = []
        self.closed = False
        self.nogoods = []
        self.events = []

    def next_answer(self):
        """Search until an answer is told, and tell whether there was one; otherwise the search is closed."""
        while not self.closed:
            if not self._holds(self._decisions):
                self._turn_back()
            elif not self._decide():
                self._tell()
                return True
        return False

    def leave_answer(self):
        """Go on behind the answer told last, so that it is not told again; without decisions that is the end."""
        number = self._close_told()
        if len(self._decisions) == 0:
            self.closed = True
        else:
            self._course.add_bar(self._decisions, number)
            self._go_back(len(self._decisions) - 1)

    def demand(self, rule):
        """Go on behind the answer told last with this rule as one more; None allows nothing."""
        self._course.demand(rule)

    def log(self):
        """Return the lines of the log."""
        return self._scribe.lines

    def _holds(self, pairs):
        """Tell whether the puzzle with the bars does not clash if the names have these values."""
        return self._course.run([(name, [value]) for name, value in pairs]) is None

    def _decide(self):
        """Decide on a value for the first name that has several, and tell whether there was one."""
        for name in self._order:
            side = self._course.sides[name]
            if len(side) > 1:
                value = side[self._first]
                self._decisions.append((name, value))
                self.events.append(("decide", name, value))
                return True
        return False

    def _tell(self):
        values = {name: side[0] for name, side in self._course.sides.items()}
        self.answers.append(values)
        self.events.append(("answer", len(self.answers)))
        self._scribe.write(("answer", dict(values)))

    def _turn_back(self):
        """Take note of a no-good among the decisions, which clash, and go back."""
        nogood = list(self._decisions)
        if self._learn:
            nogood = least_entries(nogood, lambda pairs: not self._holds(pairs))
        number = self._close_nogood(nogood)
        self.nogoods.append(nogood)
        self.events.append(("nogood", len(self.nogoods)))
        if len(nogood) == 0:
            self.closed = True
        else:
            self._course.add_bar(nogood, number)
            self._go_back(self._level_behind(nogood))

    def _level_behind(self, nogood):
        """Return the level to which the search goes back from a no-good."""
        if self._restart_after != 0 and len(self.nogoods) % self._restart_after == 0:
            return 0
        return 0 if len(nogood) == 1 else self._decisions.index(nogood[-2]) + 1

    def _go_back(self, level):
        del self._decisions[level:]
        self.events.append(("back", level))

    def _close_nogood(self, nogood):
        """Write lines that close the box of the no-good, and return the number of the last one."""
        start = self._course.run([(name, [value]) for name, value in nogood])
        return self._scribe.close(start, self._course.strikes, _box_of(nogood))

    def _close_told(self):
        """Write lines that close the box of the decisions but for the answer told last, and return the last number."""
        start = ("told", _box_of(list(self.answers[-1].items())), len(self.answers))
        return self._scribe.close(start, self._course.strikes, _box_of(self._decisions))


def _box_of(pairs):
    return {name: [value] for name, value in pairs}
