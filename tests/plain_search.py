"""A search that follows the points 39 to 42 of the document word by word, and checks of the results of searches."""

import copy

from curbdesk.answers import Result
from curbdesk.bans import Ban
from curbdesk.checker import Checker
from curbdesk.puzzles import Puzzle
from curbdesk.roots import clashes, least_clash
from curbdesk.settle import settled_box
from curbdesk.sums import Sum
from tests.support import DeskCase, mutables, spoil


class PlainSearch:
    """A search for the first answer, for all answers, or for a best one. It asks a new puzzle at each step."""

    def __init__(self, domains, rules, aim, *, order=None, greatest_first=False, learn=True, restart_after=0,
                 worth=None, greatest=False):
        self.domains, self.rules, self.aim = domains, rules, aim
        self.order = [name for name, _ in domains] if order is None else order
        self.greatest_first, self.learn, self.restart_after = greatest_first, learn, restart_after
        self.worth, self.greatest = worth, greatest
        self.decisions, self.bars = [], []
        self.answers, self.worths, self.nogoods, self.events = [], [], [], []
        self.closed = False
        self.ended = False
        while not self.ended:
            self.step()

    def puzzle(self):
        """Return the puzzle with the bars and, behind an answer, with the rule that demands a better one."""
        rules = list(self.rules)
        for number, bar in enumerate(self.bars):
            rules.append((f"bar{number}", Ban([name for name, _ in bar], [[value for _, value in bar]])))
        if self.worths and self.worth and self.greatest:
            rules.append(("better", Sum(self.worth, low=self.worths[-1] + 1)))
        elif self.worths and self.worth:
            rules.append(("better", Sum(self.worth, high=self.worths[-1] - 1)))
        return Puzzle(self.domains, rules)

    def step(self):
        puzzle = self.puzzle()
        assumptions = [(name, [value]) for name, value in self.decisions]
        # With a worth without names nothing is better than an answer, so that even no assumption holds.
        shut = self.aim == "best" and not self.worth and self.answers
        if shut or clashes(puzzle, assumptions):
            nogood = list(self.decisions)
            if self.learn:
                nogood = [] if shut else [(name, side[0]) for name, side in least_clash(puzzle, assumptions)]
            self.take_nogood(nogood)
            return
        box = settled_box(puzzle, assumptions=assumptions)
        if all(len(side) == 1 for side in box.values()):
            self.take_answer({name: side[0] for name, side in box.items()})
            return
        name = [name for name in self.order if len(box[name]) > 1][0]
        value = max(box[name]) if self.greatest_first else min(box[name])
        self.decisions.append((name, value))
        self.events.append(("decide", name, value))

    def take_nogood(self, nogood):
        self.nogoods.append(nogood)
        self.events.append(("nogood", len(self.nogoods)))
        if not nogood:
            self.closed = self.ended = True
            return
        self.bars.append(nogood)
        level = 0
        if (self.restart_after == 0 or len(self.nogoods) % self.restart_after) and len(nogood) > 1:
            level = 1 + self.decisions.index(nogood[-2])
        self.go_back(level)

    def take_answer(self, values):
        self.answers.append(values)
        self.events.append(("answer", len(self.answers)))
        if self.aim == "first":
            self.ended = True
        elif self.aim == "best":
            self.worths.append(sum(coefficient * values[name] for coefficient, name in self.worth))
        elif not self.decisions:
            self.closed = self.ended = True
        else:
            self.bars.append(list(self.decisions))
            self.go_back(len(self.decisions) - 1)

    def go_back(self, level):
        self.decisions = self.decisions[:level]
        self.events.append(("back", level))


def found(result):
    """Return what a search has found, but for its lines."""
    return (result.answers, result.closed, result.worths, result.nogoods, result.events)


def check_lines(case, puzzle, result, *, worth=None, greatest=False):
    """Check what point 40 says of the lines of a Result."""
    checker = Checker(puzzle, worth=worth, greatest=greatest)
    for number, line in enumerate(result.lines, start=1):
        case.assertEqual(checker.read(line), number)
    case.assertEqual(checker.told_answers(), result.answers)
    if result.closed:
        case.assertIs(checker.is_closed, True)
    boxes = [line[1] for line in result.lines if line[0] != "answer"]
    for nogood in result.nogoods:
        case.assertIn({name: [value] for name, value in nogood}, boxes)


def random_ways(source, names):
    """Return keyword arguments of a search."""
    order = source.choice([None, source.sample(names, len(names))])
    return {
        "order": order, "greatest_first": source.random() < 0.5, "learn": source.random() < 0.6,
        "restart_after": source.choice([0, 0, 1, 2, 3]),
    }


class SearchCase(DeskCase):
    """A test case that compares searches with the plain one."""

    def search(self, function, *args, **named):
        """Search, check point 2 of the document, and return the Result."""
        given = copy.deepcopy([args[1:], named])
        result = function(*args, **named)
        self.assertEqual([args[1:], named], [*given], "the arguments were changed")
        self.assertIsInstance(result, Result)
        self.check_kinds(result)
        first = copy.deepcopy((found(result), result.lines))
        spoil([result.answers, result.worths, result.nogoods, result.events, result.lines])
        again = function(*args, **named)
        self.assertEqual((found(again), again.lines), first, "asking twice gave two results")
        return again

    def check_kinds(self, result):
        self.assertIs(type(result.closed), bool)
        everything = [result.answers, result.worths, result.nogoods, result.events, result.lines]
        self.check_plain(everything)
        places = [id(part) for part in mutables(everything)]
        self.assertEqual(len(places), len(set(places)), "a list or dictionary stands at two places")
        for part in result.events + result.lines + [pair for nogood in result.nogoods for pair in nogood]:
            self.assertIs(type(part), tuple)
