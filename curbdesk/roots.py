"""Assumptions that suffice for a clash or for a strike (point 30)."""

from curbdesk.errors import NoClash, NotStruck
from curbdesk.puzzles import check_sides
from curbdesk.rules import first_empty
from curbdesk.settle import settled_box


def clashes(puzzle, assumptions):
    """Tell whether the puzzle clashes under the assumptions."""
    return first_empty(puzzle.names, settled_box(puzzle, assumptions=assumptions)) is not None


def least_clash(puzzle, assumptions):
    """Return assumptions of the list under which the puzzle clashes; without any of them it does not."""
    if not clashes(puzzle, assumptions):
        raise NoClash()
    kept = least_entries(assumptions, lambda some: clashes(puzzle, some))
    return [(name, list(side)) for name, side in kept]


def least_roots(puzzle, assumptions, name, value):
    """Return assumptions of the list that suffice for the settled box to lack the value of the name."""
    check_sides(puzzle, assumptions)
    check_sides(puzzle, [(name, [value])])
    if not lacks(puzzle, assumptions, name, value):
        raise NotStruck(name, value)
    kept = least_entries(assumptions, lambda some: lacks(puzzle, some, name, value))
    return [(other, list(side)) for other, side in kept]


def lacks(puzzle, assumptions, name, value):
    """Tell whether the settled box under the assumptions lacks the value of the name."""
    return value not in settled_box(puzzle, assumptions=assumptions)[name]


def least_entries(entries, suffice):
    """Leave out entries, from the last one to the first, as long as the others suffice; they do at the start."""
    kept = list(entries)
    for place in reversed(range(len(entries))):
        others = kept[:place] + kept[place + 1:]
        if suffice(others):
            kept = others
    return kept
