"""A puzzle that changes, with a book of what has been concluded (points 44 to 46)."""

from curbdesk.answers import all_answers, first_answer
from curbdesk.best import best_answer
from curbdesk.books import copied_line, renumbered, rests_on, without_key
from curbdesk.checker import plain_fault
from curbdesk.derive import closing_lines
from curbdesk.errors import BadDeed, BadLine
from curbdesk.history import History
from curbdesk.puzzles import Puzzle
from curbdesk.settle import settled_box

DEEDS = ("declare", "post", "exchange", "withdraw", "write", "derive")


class Page:
    """What a desk is between two deeds: a puzzle and the lines of a book. It does not change."""

    def __init__(self, held, lines):
        self.held = held
        self.lines = lines


class Desk:
    """A session in which names and rules come, rules go, and lines are written into a book."""

    def __init__(self):
        self._history = History(Page(Puzzle([], []), []))

    @property
    def steps(self):
        """The number of steps that can be undone."""
        return self._history.steps

    @property
    def undone(self):
        """The number of steps that can be redone."""
        return self._history.undone

    def declare(self, name, values):
        """Add a name behind the others."""
        self.attempt([("declare", name, values)])

    def post(self, key, rule):
        """Add a rule behind the others."""
        self.attempt([("post", key, rule)])

    def exchange(self, key, rule):
        """Put another rule in the place of the one with this key; the lines that rest on the key go."""
        self.attempt([("exchange", key, rule)])

    def withdraw(self, key):
        """Remove the rule with this key; the lines that rest on the key go."""
        self.attempt([("withdraw", key)])

    def write(self, line):
        """Append a line to the book and return its number."""
        return self.attempt([("write", line)])[0]

    def derive(self, box):
        """Return the number of a line of the book with this box, which holds no answer, appending lines if need be."""
        return self.attempt([("derive", box)])[0]

    def attempt(self, deeds):
        """Carry out the deeds in order, all of them or none, and return their results."""
        page = self._history.state
        results = []
        changed = False
        for position, deed in enumerate(deeds):
            if deed[0] not in DEEDS:
                raise BadDeed(position)
            following, result = _carried_out(page, deed)
            results.append(result)
            if following is not None:
                page = following
                changed = True
        if changed:
            self._history.push(page)
        return results

    def undo(self):
        """Take the last step back."""
        self._history.undo()

    def redo(self):
        """Make the step again that was taken back last."""
        self._history.redo()

    def back_to(self, steps):
        """Take steps back until there are so many."""
        self._history.back_to(steps)

    def puzzle(self):
        """Return the present puzzle."""
        return self._history.state.held

    def box(self):
        """Return the settled box of the present puzzle."""
        return settled_box(self.puzzle())

    def book(self):
        """Return the lines of the book."""
        return [copied_line(line) for line in self._history.state.lines]

    def resting(self, number):
        """Return the keys on which the line of the book with this number rests."""
        return rests_on(self._history.state.lines, number)

    def find_first(self, *, order=None, greatest_first=False):
        """Return the first answer in the order, or None."""
        answers = first_answer(self.puzzle(), order=order, greatest_first=greatest_first).answers
        return answers[0] if len(answers) > 0 else None

    def find_all(self, *, order=None, greatest_first=False):
        """Return all answers in the order."""
        return all_answers(self.puzzle(), order=order, greatest_first=greatest_first).answers

    def find_best(self, worth, *, greatest=False, order=None, greatest_first=False):
        """Return the best worth and the first answer that has it, or None."""
        result = best_answer(
            self.puzzle(), worth, greatest=greatest, order=order, greatest_first=greatest_first)
        return (result.worths[-1], result.answers[-1]) if len(result.answers) > 0 else None


def _carried_out(page, deed):
    """Return the page that a deed leaves, or None if it is no step, and the result of the deed."""
    word = deed[0]
    if word == "write":
        return _written(page, deed[1])
    if word == "derive":
        return _derived(page, deed[1])
    if word == "declare":
        return (_declared(page, deed[1], deed[2]), None)
    if word == "post":
        return (Page(page.held.with_rules([(deed[1], deed[2])]), page.lines), None)
    if word == "exchange":
        return (_exchanged(page, deed[1], deed[2]), None)
    return (Page(page.held.without_rule(deed[1]), without_key(page.lines, deed[1])), None)


def _declared(page, name, values):
    return Page(Puzzle(page.held.domains() + [(name, values)], _rules_of(page.held)), page.lines)


def _exchanged(page, key, rule):
    page.held.rule(key)
    rules = [(other, rule if other == key else held) for other, held in _rules_of(page.held)]
    return Page(Puzzle(page.held.domains(), rules), without_key(page.lines, key))


def _rules_of(puzzle):
    return [(key, puzzle.rule(key)) for key in puzzle.rule_keys]


def _written(page, line):
    number = len(page.lines) + 1
    if line[0] in ("answer", "told", "worse"):
        raise BadLine(number, "kind")
    fault = plain_fault(page.held, [earlier[1] for earlier in page.lines], line)
    if fault is not None:
        raise BadLine(number, fault)
    return (Page(page.held, page.lines + [copied_line(line)]), number)


def _derived(page, box):
    # A box that the book has holds no answer and lists nothing unknown, so it needs no check.
    for number, line in enumerate(page.lines, start=1):
        if line[1] == box:
            return (None, number)
    lines = page.lines + renumbered(closing_lines(page.held, box), len(page.lines))
    return (Page(page.held, lines), len(lines))
