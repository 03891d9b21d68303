"""Puzzles: names with their domains, and rules under keys (point 22)."""

from curbdesk.boxes import copied_box, domains_of, room
from curbdesk.errors import RepeatedKey, UnknownKey, UnknownName, UnknownValue


class Puzzle:
    """Names, the integers that each of them may take, and rules for their combinations. It does not change."""

    def __init__(self, domains, rules):
        self._sides = dict(domains_of(domains))
        self.names = tuple(self._sides)
        self._rules = {}
        for key, rule in rules:
            self._check_rule(key, rule)
            self._rules[key] = rule
        self.rule_keys = tuple(self._rules)
        self.room = room(self._sides)

    def __contains__(self, name):
        return name in self._sides

    def __iter__(self):
        return iter(self.names)

    def domain(self, name):
        """Return the domain of the name."""
        if name not in self._sides:
            raise UnknownName(name)
        return list(self._sides[name])

    def domains(self):
        """Return the list of pairs of name and side, in order."""
        return [(name, list(side)) for name, side in self._sides.items()]

    def box(self):
        """Return the box of all domains."""
        return copied_box(self._sides)

    def rule(self, key):
        """Return the rule with this key."""
        if key not in self._rules:
            raise UnknownKey(key)
        return self._rules[key]

    def allows(self, values):
        """Tell whether the dictionary is an answer of the puzzle."""
        if len(values) != len(self.names):
            return False
        for name, side in self._sides.items():
            if name not in values or values[name] not in side:
                return False
        return all([rule.allows(values) for rule in self._rules.values()])

    def with_rules(self, rules):
        """Return a puzzle with further rules behind those of this one."""
        return Puzzle(self.domains(), list(self._rules.items()) + list(rules))

    def without_rule(self, key):
        """Return a puzzle without the rule of this key."""
        if key not in self._rules:
            raise UnknownKey(key)
        return Puzzle(self.domains(), [(other, rule) for other, rule in self._rules.items() if other != key])

    def _check_rule(self, key, rule):
        if key in self._rules:
            raise RepeatedKey(key)
        for name in rule.names:
            if name not in self._sides:
                raise UnknownName(name)


def check_sides(puzzle, pairs):
    """Check that the puzzle has each name, and its domain each value of the side that stands beside it."""
    for name, side in pairs:
        domain = puzzle.domain(name)
        for value in side:
            if value not in domain:
                raise UnknownValue(name, value)


def check_box(puzzle, box):
    """Check that the puzzle has the names of the box, and their domains the values of its sides."""
    check_sides(puzzle, list(box.items()))
