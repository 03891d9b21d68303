"""A best answer of a puzzle, found by a search that demands better ones (point 42)."""

from curbdesk.answers import Result
from curbdesk.searches import Search
from curbdesk.sums import Sum
from curbdesk.worths import checked_worth, worth_of


def best_answer(puzzle, worth, *, greatest=False, order=None, greatest_first=False, learn=True, restart_after=0):
    """Search for answers, each better than the one before, until there is no better one."""
    terms = checked_worth(puzzle, worth)
    search = Search(puzzle, order, greatest_first, learn, restart_after)
    while search.next_answer():
        search.demand(_better_rule(terms, worth_of(terms, search.answers[-1]), greatest))
    return Result(search, [worth_of(terms, values) for values in search.answers])


def _better_rule(terms, best, greatest):
    """Return a rule that allows the assignments that are better than this, or None if none can be."""
    if len(terms) == 0:
        return None
    return Sum(terms, low=best + 1) if greatest else Sum(terms, high=best - 1)
