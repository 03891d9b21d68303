"""The first answer and all answers of a puzzle, found by a search (points 39 to 41)."""

from curbdesk.searches import Search


class Result:
    """What a search has found."""

    def __init__(self, search, worths):
        self.answers = search.answers
        self.closed = search.closed
        self.worths = worths
        self.nogoods = search.nogoods
        self.events = search.events
        self.lines = search.log()


def first_answer(puzzle, *, order=None, greatest_first=False, learn=True, restart_after=0):
    """Search until an answer is told, or until it is sure that there is none."""
    search = Search(puzzle, order, greatest_first, learn, restart_after)
    search.next_answer()
    return Result(search, [])


def all_answers(puzzle, *, order=None, greatest_first=False, learn=True, restart_after=0):
    """Search until all answers are told."""
    search = Search(puzzle, order, greatest_first, learn, restart_after)
    while search.next_answer():
        search.leave_answer()
    return Result(search, [])
