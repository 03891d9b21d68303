"""The course of striking: what strikes values under assumptions, in which order, and why."""

from curbdesk.boxes import copied_box
from curbdesk.rules import first_empty
from curbdesk.sides import without


class Course:
    """What strikes values under assumptions until the box is settled or a side is empty; each run begins anew.

    Besides the rules of the puzzle there may be bars, each of which forbids some names to have certain values at once,
    and one rule that demands something better than the answers told so far.
    """

    def __init__(self, puzzle):
        self._domains = puzzle.domains()
        # Beside each rule stands what tells where it comes from, for the log.
        self._rules = [(("rule", key), puzzle.rule(key)) for key in puzzle.rule_keys]
        self._demands = []
        self._is_shut = False
        self._bars = []
        # What a rule strikes from given sides, so that it is asked once for them.
        self._known = {}
        self._empty = None
        # The sides as tuples, and the strikes: tuples of a name, a value, where the strike comes from (None for an
        # assumption), and the sides from which it was struck.
        self.sides = {}
        self.strikes = []

    def run(self, assumptions):
        """Strike under the assumptions; return the line from which a log of the clash starts, or None."""
        self.sides = {name: tuple(side) for name, side in self._domains}
        self.strikes = []
        if self._is_shut:
            return ("worse", {})
        self._empty = first_empty(list(self.sides), self.sides)
        for name, side in assumptions:
            self._strike_all([(name, value) for value in without(self.sides[name], side)], None, {})
        length = -1
        while self._empty is None and length < len(self.strikes):
            length = len(self.strikes)
            self._ask_all()
        return None if self._empty is None else ("void", {self._empty: []}, self._empty)

    def add_bar(self, pairs, number):
        """Forbid the names to have the values of these pairs at once, as the line with this number concludes."""
        values = dict(pairs)
        # What the new bar forbids need not be forbidden by others.
        kept = [bar for bar in self._bars if not _is_part(values, bar[1])]
        self._bars = kept + [(("line", number), values)]

    def demand(self, rule):
        """Put a rule in the place of the one demanded last; None allows nothing at all."""
        self._is_shut = rule is None
        source = ("worse", len(self._demands))
        self._demands = self._demands + [(source, rule)]

    def _ask_all(self):
        """Let each bar and each rule strike what it can."""
        for source, values in self._bars:
            if self._empty is None:
                self._ask_bar(source, values)
        for source, rule in self._rules + self._demands[-1:]:
            if self._empty is None:
                self._ask_rule(source, rule)

    def _ask_bar(self, source, values):
        """Strike the value of a bar's name if all its other names have the bar's values."""
        struck = None
        for name, value in values.items():
            side = self.sides[name]
            if value not in side:
                return
            if len(side) > 1 and struck is not None:
                return
            if len(side) > 1:
                struck = name
        if struck is None:
            # All names have the bar's values, so any of them loses its last value.
            struck = list(values)[0]
        sides = {other: (needed,) for other, needed in values.items()}
        self._strike_all([(struck, values[struck])], source, sides)

    def _ask_rule(self, source, rule):
        sides = tuple([self.sides[name] for name in rule.names])
        case = (source, sides)
        if case not in self._known:
            self._known[case] = _unsupported(rule, dict(zip(rule.names, sides)))
        self._strike_all(self._known[case], source, dict(zip(rule.names, sides)))

    def _strike_all(self, pairs, source, sides):
        """Strike the pairs of name and value in order, until a side is empty."""
        for name, value in pairs:
            if self._empty is None:
                self.sides[name] = tuple([other for other in self.sides[name] if other != value])
                self.strikes.append((name, value, source, sides))
                if len(self.sides[name]) == 0:
                    self._empty = name


def _is_part(values, others):
    return all([name in others and others[name] == value for name, value in values.items()])


def _unsupported(rule, sides):
    """Return the pairs of name and value that the rule does not support in the sides."""
    box = copied_box(sides)
    return [(name, value) for name in rule.names for value in without(box[name], rule.supported(box, name))]
