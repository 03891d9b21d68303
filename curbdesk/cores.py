"""Rules that suffice to close a box, and boxes as wide as they can be while they hold no answer (point 31)."""

from curbdesk.boxes import filled, trimmed
from curbdesk.errors import HoldsAnswer
from curbdesk.plain import plain_answers
from curbdesk.puzzles import Puzzle
from curbdesk.roots import least_entries
from curbdesk.sides import united, without


def least_rules(puzzle, box):
    """Return keys of rules that leave the box without an answer; without any of them it has one."""
    check_closed(puzzle, box)
    return least_entries(puzzle.rule_keys, lambda keys: len(plain_answers(_with_rules_of(puzzle, keys), box=box)) == 0)


def widest_closed(puzzle, box):
    """Return the box with each value that can be added, one after another, while it holds no answer."""
    check_closed(puzzle, box)
    widest = filled(box, puzzle.domains())
    for name, domain in puzzle.domains():
        further = without(domain, widest[name])
        # Whether a value can be added hangs on the other names' sides alone, so all are asked about at once.
        taken = [answer[name] for answer in plain_answers(puzzle, box={**widest, name: further})]
        widest[name] = united(widest[name], without(further, taken))
    return trimmed(widest, puzzle.domains())


def check_closed(puzzle, box):
    """Check that the box holds no answer of the puzzle."""
    held = plain_answers(puzzle, box=box)
    if len(held) > 0:
        raise HoldsAnswer(held[0])


def _with_rules_of(puzzle, keys):
    """Return the puzzle with only the rules of these keys."""
    return Puzzle(puzzle.domains(), [(key, puzzle.rule(key)) for key in keys])
