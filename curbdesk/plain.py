"""All answers of a puzzle, found by going through its assignments (point 28)."""

from curbdesk.boxes import filled
from curbdesk.puzzles import check_box


def plain_answers(puzzle, *, box=None):
    """Return the answers that the box holds, in the order of the domains."""
    limits = {} if box is None else box
    check_box(puzzle, limits)
    form = filled(limits, puzzle.domains())
    rules = [puzzle.rule(key) for key in puzzle.rule_keys]
    found = [{}]
    known = []
    for name in puzzle.names:
        # A rule is asked as soon as its last name has a value.
        asked = [rule for rule in rules if name in rule.names and _all_known(rule, known + [name])]
        known.append(name)
        found = [values for values in _extended(found, name, form[name]) if _all_allow(asked, values)]
    return found


def _extended(found, name, side):
    """Return each assignment with each value of the side for one more name."""
    return [{**values, name: value} for values in found for value in side]


def _all_known(rule, known):
    return all([name in known for name in rule.names])


def _all_allow(rules, values):
    return all([rule.allows(values) for rule in rules])
