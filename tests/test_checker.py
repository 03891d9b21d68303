import copy
import unittest

from curbdesk.bans import Ban
from curbdesk.checker import Checker, check_log
from curbdesk.counts import Counts
from curbdesk.errors import BadLine, RepeatedName, UnknownLine, UnknownName
from curbdesk.puzzles import Puzzle
from curbdesk.rings import Ring
from curbdesk.sums import Sum
from curbdesk.tables import Table
from curbdesk.unlike import Unlike
from tests.support import DeskCase, all_in, held, random_parts, seeded, slow_answers, spoil


def small_puzzle():
    """Return a puzzle with the answers x=1 y=2, x=1 y=3 and x=2 y=3."""
    return Puzzle([("x", [1, 2, 3]), ("y", [1, 2, 3])], [("less", Ring([("x", "y", -1)])), ("not", Unlike(["x", "y"]))])


# What shows that "less" allows nothing in a box.
CLIMB = ("climb", [0])


class CheckerCase(DeskCase):
    def state(self, checker):
        boxes = []
        for number in range(1, checker.size + 1):
            try:
                boxes.append(checker.box_of(number))
            except UnknownLine:
                boxes.append(None)
        return (checker.size, checker.is_closed, checker.best_worth, checker.told_answers(), boxes)

    def accepts(self, checker, line):
        kept = copy.deepcopy(line)
        number = checker.size + 1
        result = checker.read(line)
        self.assertEqual(result, number)
        self.assertIs(type(result), int)
        self.assertEqual(line, kept, "the line was changed")
        self.assertEqual(checker.size, number)
        self.assertIs(type(checker.is_closed), bool)

    def refuses(self, checker, line, fault):
        before = copy.deepcopy(self.state(checker))
        number = checker.size + 1
        self.fails(BadLine, {"number": number, "fault": fault}, checker.read, line)
        self.assertEqual(self.state(checker), before)

    def read_all(self, checker, lines):
        for line in lines:
            self.accepts(checker, line)
        return checker


class StartTest(CheckerCase):
    def test_new(self):
        for worth in (None, [], [(1, "x")]):
            checker = Checker(small_puzzle(), worth=worth)
            self.assertEqual(self.state(checker), (0, False, None, [], []))
        self.assertEqual(self.state(Checker(Puzzle([], []))), (0, False, None, [], []))
        self.assertEqual(self.state(Checker(Puzzle([("x", [])], []))), (0, False, None, [], []))

    def test_errors(self):
        puzzle = small_puzzle()
        for function, args in ((Checker, (puzzle,)), (check_log, (puzzle, []))):
            self.fails(UnknownName, {"name": "z"}, function, *args, worth=[(1, "x"), (1, "z"), (1, "x")])
            self.fails(RepeatedName, {"name": "x"}, function, *args, worth=[(1, "x"), (1, "x"), (1, "z")])
        with self.assertRaises(TypeError):
            Checker(puzzle, [])


class BoxTest(CheckerCase):
    LINES = [
        ("void", "x"), ("void", "z"), ("rule", "less", CLIMB), ("rule", "z", CLIMB), ("join", "z", 9, 9),
        ("told", 9), ("worse",),
    ]

    def test_faults_of_the_box_come_first(self):
        checker = Checker(small_puzzle())
        for line in self.LINES:
            for box in ({"z": []}, {"x": [1, 4]}, {"x": [0]}, {"x": [], "y": [], "z": [1]}, {"y": [1], "x": [1, 2, 3, 4]}):
                self.refuses(checker, (line[0], box) + line[1:], "box")

    def test_no_fault_of_the_box(self):
        checker = Checker(small_puzzle())
        faults = ["void", "name", "certificate", "key", "name", "number", "worse"]
        for line, fault in zip(self.LINES, faults):
            for box in ({}, {"x": [1, 2, 3], "y": [2]}, {"y": [2, 3]}):
                self.refuses(checker, (line[0], box) + line[1:], fault)


class VoidTest(CheckerCase):
    def test_accepted(self):
        checker = Checker(small_puzzle())
        self.read_all(checker, [("void", {"x": []}, "x"), ("void", {"x": [1], "y": []}, "y")])
        self.assertEqual(checker.box_of(1), {"x": [], "y": [1, 2, 3]})
        self.assertEqual(checker.box_of(2), {"x": [1], "y": []})
        self.assertIs(checker.is_closed, False)

    def test_empty_domain(self):
        checker = Checker(Puzzle([("x", []), ("y", [1])], []))
        self.accepts(checker, ("void", {"y": []}, "x"))
        self.assertIs(checker.is_closed, False)
        self.refuses(checker, ("void", {}, "y"), "void")
        self.accepts(checker, ("void", {}, "x"))
        self.assertIs(checker.is_closed, True)
        self.assertEqual(checker.box_of(2), {"x": [], "y": [1]})

    def test_refused(self):
        checker = Checker(small_puzzle())
        self.refuses(checker, ("void", {"x": []}, "z"), "name")
        self.refuses(checker, ("void", {"x": []}, "y"), "void")
        self.refuses(checker, ("void", {}, "x"), "void")
        self.refuses(checker, ("void", {"x": [1]}, "x"), "void")


class RuleTest(CheckerCase):
    def test_accepted(self):
        checker = Checker(small_puzzle())
        self.accepts(checker, ("rule", {"x": [3]}, "less", CLIMB))
        self.accepts(checker, ("rule", {"x": [2], "y": [2]}, "not", ("crowd", ["y", "x"])))
        self.accepts(checker, ("rule", {"y": []}, "not", ("empty", "y")))
        self.assertEqual(checker.box_of(2), {"x": [2], "y": [2]})

    def test_refused(self):
        checker = Checker(small_puzzle())
        self.refuses(checker, ("rule", {"x": [3]}, "more", CLIMB), "key")
        self.refuses(checker, ("rule", {"x": [2]}, "less", CLIMB), "certificate")
        self.refuses(checker, ("rule", {"x": [3]}, "less", ("climb", [0, 0])), "certificate")
        self.refuses(checker, ("rule", {"x": [3]}, "less", ("climb", [])), "certificate")
        self.refuses(checker, ("rule", {"x": [3]}, "less", ("climb", [5])), "certificate")
        self.refuses(checker, ("rule", {"x": [3]}, "not", CLIMB), "certificate")
        self.refuses(checker, ("rule", {}, "less", ("empty", "x")), "certificate")
        self.refuses(checker, ("rule", {"y": []}, "less", CLIMB), "certificate")
        self.refuses(checker, ("rule", {"x": [2], "y": [2]}, "not", ("crowd", ["x", "z"])), "certificate")

    def test_every_kind_of_rule(self):
        domains = [("x", [1, 2]), ("y", [1, 2])]
        box = {"x": [1], "y": [1]}
        cases = [
            (Table(["x", "y"], [(1, 2), (2, 1)]), ("blame", ["y", "x"]), ("blame", ["x", "x"])),
            (Ban(["x", "y"], [(2, 2), (1, 1)]), ("full", [1]), ("full", [0])),
            (Sum([(1, "x"), (1, "y")], low=3), ("layers", [[0], [1], [2]]), ("layers", [[0], [1], [3]])),
            (Counts(["x", "y"], [(1, 0, 1)]), ("crowd", ["x", "y"]), ("crowd", ["x"])),
            (Counts(["x", "y"], [(2, 1, 1)]), ("want", [2]), ("want", [1])),
        ]
        for rule, right, wrong in cases:
            checker = Checker(Puzzle(domains, [("r", rule)]))
            self.refuses(checker, ("rule", box, "r", wrong), "certificate")
            self.refuses(checker, ("rule", {"x": [1]}, "r", right), "certificate")
            self.accepts(checker, ("rule", box, "r", right))

    def test_contents_of_the_size_of_point_3(self):
        checker = Checker(small_puzzle())
        for word, part in (("blame", "x"), ("crowd", "x"), ("full", 0), ("climb", 0), ("want", 1), ("layers", [0, 1])):
            for key in ("less", "not"):
                content = [list(part) if word == "layers" else part for _ in range(600)]
                self.refuses(checker, ("rule", {"x": [2]}, key, (word, content)), "certificate")


class JoinTest(CheckerCase):
    def start(self):
        lines = [("rule", {"x": [3]}, "less", CLIMB), ("answer", {"x": 1, "y": 2}),
                 ("rule", {"x": [2], "y": [1, 2]}, "less", CLIMB)]
        return self.read_all(Checker(small_puzzle()), lines)

    def test_accepted(self):
        checker = self.start()
        self.accepts(checker, ("join", {"x": [2, 3], "y": [1, 2]}, "x", 1, 3))
        self.accepts(checker, ("join", {"x": [3], "y": [2]}, "x", 3, 1))
        self.accepts(checker, ("join", {"x": [2], "y": []}, "x", 1, 3))
        self.accepts(checker, ("join", {"x": [], "y": [1]}, "x", 1, 3))
        self.accepts(checker, ("join", {"x": [], "y": [1, 2, 3]}, "y", 1, 3))
        self.assertEqual(checker.box_of(4), {"x": [2, 3], "y": [1, 2]})

    def test_same_line_twice(self):
        checker = self.start()
        self.accepts(checker, ("join", {"x": [3]}, "x", 1, 1))
        self.accepts(checker, ("join", {"x": [3], "y": [1]}, "y", 1, 1))
        self.refuses(checker, ("join", {"x": [2, 3]}, "x", 1, 1), "join")
        self.refuses(checker, ("join", {}, "y", 1, 1), "join")

    def test_name(self):
        checker = self.start()
        self.refuses(checker, ("join", {"x": [3]}, "z", 1, 3), "name")
        self.refuses(checker, ("join", {}, "z", 0, 9), "name")

    def test_number(self):
        checker = self.start()
        for first, second in ((1, 0), (0, 1), (-1, 1), (1, -3), (1, 4), (4, 1), (5, 1), (2, 1), (1, 2), (10 ** 29, 1)):
            self.refuses(checker, ("join", {"x": [3]}, "x", first, second), "number")
            self.refuses(checker, ("join", {}, "y", first, second), "number")

    def test_join(self):
        checker = self.start()
        self.refuses(checker, ("join", {"x": [2, 3]}, "x", 1, 3), "join")
        self.refuses(checker, ("join", {"x": [1, 2], "y": [1]}, "x", 1, 3), "join")
        self.refuses(checker, ("join", {"x": [2, 3], "y": [1, 2]}, "y", 1, 3), "join")
        # Each side is looked at by itself, also if the box holds nothing.
        self.refuses(checker, ("join", {"x": [], "y": [3]}, "x", 1, 3), "join")
        self.refuses(checker, ("join", {"x": [1], "y": []}, "x", 1, 3), "join")


class AnswerTest(CheckerCase):
    def test_without_a_worth(self):
        checker = Checker(small_puzzle())
        self.accepts(checker, ("answer", {"y": 3, "x": 1}))
        self.accepts(checker, ("answer", {"x": 1, "y": 2}))
        self.assertEqual(self.ask(checker.told_answers), [{"x": 1, "y": 3}, {"x": 1, "y": 2}])
        self.assertIsNone(checker.best_worth)
        self.refuses(checker, ("answer", {"x": 1, "y": 3}), "answer")
        for values in ({"x": 2, "y": 2}, {"x": 1}, {}, {"x": 1, "y": 4}, {"x": 1, "y": 2, "z": 1}, {"z": 1}):
            self.refuses(checker, ("answer", values), "answer")

    def test_with_a_worth(self):
        checker = Checker(small_puzzle(), worth=[(1, "x"), (1, "y")])
        self.accepts(checker, ("answer", {"x": 1, "y": 3}))
        self.assertEqual(checker.best_worth, 4)
        self.refuses(checker, ("answer", {"x": 1, "y": 3}), "answer")
        self.refuses(checker, ("answer", {"x": 2, "y": 3}), "answer")
        self.refuses(checker, ("answer", {"x": 1, "y": 1}), "answer")
        self.accepts(checker, ("answer", {"x": 1, "y": 2}))
        self.assertEqual(checker.best_worth, 3)
        self.assertEqual(checker.told_answers(), [{"x": 1, "y": 3}, {"x": 1, "y": 2}])

    def test_greatest(self):
        checker = Checker(small_puzzle(), worth=[(1, "x"), (1, "y")], greatest=True)
        self.accepts(checker, ("answer", {"x": 1, "y": 2}))
        self.accepts(checker, ("answer", {"x": 1, "y": 3}))
        self.refuses(checker, ("answer", {"x": 1, "y": 2}), "answer")
        self.accepts(checker, ("answer", {"x": 2, "y": 3}))
        self.assertEqual(checker.best_worth, 5)

    def test_ties(self):
        for worth in ([], [(0, "x")], [(1, "x")]):
            for greatest in (False, True):
                checker = Checker(small_puzzle(), worth=worth, greatest=greatest)
                self.accepts(checker, ("answer", {"x": 1, "y": 2}))
                self.refuses(checker, ("answer", {"x": 1, "y": 3}), "answer")
                self.assertEqual(checker.best_worth, 1 if worth == [(1, "x")] else 0)
                self.assertIs(type(checker.best_worth), int)

    def test_an_answer_line_closes_nothing(self):
        checker = Checker(Puzzle([], []))
        self.accepts(checker, ("answer", {}))
        self.assertIs(checker.is_closed, False)
        self.refuses(checker, ("answer", {}), "answer")
        self.refuses(checker, ("answer", {"x": 1}), "answer")


class ToldTest(CheckerCase):
    def start(self, worth=None):
        lines = [("void", {"x": []}, "x"), ("answer", {"x": 2, "y": 3}), ("answer", {"x": 1, "y": 2})]
        return self.read_all(Checker(small_puzzle(), worth=worth), lines)

    def test_accepted(self):
        for worth in (None, [(1, "x")]):
            checker = self.start(worth)
            self.accepts(checker, ("told", {"x": [2], "y": [3]}, 1))
            self.accepts(checker, ("told", {"x": [1], "y": [2]}, 2))
            self.assertEqual(checker.box_of(4), {"x": [2], "y": [3]})

    def test_empty_sides(self):
        checker = self.start()
        self.accepts(checker, ("told", {"x": [], "y": [3]}, 1))
        self.accepts(checker, ("told", {"x": [], "y": []}, 2))
        self.refuses(checker, ("told", {"x": [], "y": [2]}, 1), "told")
        self.refuses(checker, ("told", {"x": []}, 1), "told")

    def test_refused(self):
        checker = self.start()
        for number in (0, -1, 3, 4, 10 ** 29):
            self.refuses(checker, ("told", {"x": [2], "y": [3]}, number), "number")
            self.refuses(checker, ("told", {}, number), "number")
        for box in ({}, {"x": [2]}, {"x": [1], "y": [3]}, {"x": [2], "y": [2, 3]}):
            self.refuses(checker, ("told", box, 1), "told")
        self.refuses(checker, ("told", {"x": [2], "y": [3]}, 2), "told")

    def test_single_values(self):
        checker = Checker(Puzzle([("x", [1]), ("y", [1, 2])], []))
        self.accepts(checker, ("answer", {"x": 1, "y": 2}))
        self.accepts(checker, ("told", {"y": [2]}, 1))
        self.assertIs(checker.is_closed, False)
        self.accepts(checker, ("answer", {"x": 1, "y": 1}))
        self.accepts(checker, ("told", {"y": [1]}, 2))
        self.accepts(checker, ("join", {}, "y", 2, 4))
        self.assertIs(checker.is_closed, True)


class WorseTest(CheckerCase):
    def test_without_a_worth(self):
        checker = Checker(small_puzzle())
        self.accepts(checker, ("answer", {"x": 1, "y": 2}))
        self.refuses(checker, ("worse", {}), "worse")

    def test_before_any_answer(self):
        for worth in ([], [(1, "x")]):
            checker = Checker(small_puzzle(), worth=worth)
            self.refuses(checker, ("worse", {"x": [3]}), "worse")
            self.refuses(checker, ("worse", {}), "worse")

    def test_least(self):
        checker = Checker(small_puzzle(), worth=[(2, "x"), (-1, "y")])
        self.accepts(checker, ("answer", {"x": 2, "y": 3}))
        self.assertEqual(checker.best_worth, 1)
        self.accepts(checker, ("worse", {"x": [2, 3]}))
        self.accepts(checker, ("worse", {"x": [2, 3], "y": [1, 2]}))
        self.accepts(checker, ("worse", {"y": [1]}))
        self.refuses(checker, ("worse", {"y": [1, 2]}), "worse")
        self.refuses(checker, ("worse", {}), "worse")
        self.refuses(checker, ("worse", {"x": []}), "worse")
        self.refuses(checker, ("worse", {"x": [3], "y": []}), "worse")
        self.assertEqual(checker.box_of(2), {"x": [2, 3], "y": [1, 2, 3]})
        self.assertIs(checker.is_closed, False)

    def test_greatest(self):
        checker = Checker(small_puzzle(), worth=[(2, "x"), (0, "y")], greatest=True)
        self.accepts(checker, ("answer", {"x": 1, "y": 2}))
        self.accepts(checker, ("worse", {"x": [1]}))
        self.refuses(checker, ("worse", {"x": [1], "y": []}), "worse")
        self.refuses(checker, ("worse", {"x": [1, 2]}), "worse")
        self.accepts(checker, ("answer", {"x": 2, "y": 3}))
        self.accepts(checker, ("worse", {"x": [1, 2]}))

    def test_empty_side_of_another_name(self):
        checker = Checker(small_puzzle(), worth=[(1, "x")])
        self.accepts(checker, ("answer", {"x": 1, "y": 2}))
        self.accepts(checker, ("worse", {"y": []}))
        self.accepts(checker, ("worse", {}))
        self.assertIs(checker.is_closed, True)

    def test_worth_without_names(self):
        for greatest in (False, True):
            checker = Checker(small_puzzle(), worth=[], greatest=greatest)
            self.accepts(checker, ("answer", {"x": 1, "y": 2}))
            self.assertEqual(checker.best_worth, 0)
            self.accepts(checker, ("worse", {"x": [], "y": [1]}))
            self.assertIs(checker.is_closed, False)
            self.accepts(checker, ("worse", {"y": [1, 2, 3]}))
            self.assertIs(checker.is_closed, True)


class ClosedTest(CheckerCase):
    LINES = [
        ("rule", {"y": [1]}, "less", CLIMB), ("rule", {"x": [3]}, "less", CLIMB),
        ("rule", {"x": [2], "y": [2]}, "less", CLIMB), ("answer", {"x": 2, "y": 3}), ("told", {"x": [2], "y": [3]}, 1),
        ("join", {"x": [2], "y": [2, 3]}, "y", 3, 5), ("join", {"x": [2, 3], "y": [2, 3]}, "x", 6, 2),
        ("answer", {"x": 1, "y": 2}), ("told", {"x": [1], "y": [2]}, 2), ("answer", {"x": 1, "y": 3}),
        ("told", {"x": [1], "y": [3]}, 3), ("join", {"x": [1], "y": [2, 3]}, "y", 9, 11),
        ("join", {"y": [2, 3]}, "x", 12, 7),
    ]
    LAST = ("join", {"y": [1, 2, 3], "x": [1, 2, 3]}, "y", 1, 13)

    def test_all_answers(self):
        checker = self.read_all(Checker(small_puzzle()), self.LINES)
        self.assertIs(checker.is_closed, False)
        self.accepts(checker, self.LAST)
        self.assertIs(checker.is_closed, True)
        # It stays closed, and goes on reading.
        self.refuses(checker, ("void", {}, "x"), "void")
        self.accepts(checker, ("void", {"x": []}, "x"))
        self.assertIs(checker.is_closed, True)

    def test_check_log(self):
        answers = [{"x": 2, "y": 3}, {"x": 1, "y": 2}, {"x": 1, "y": 3}]
        puzzle = small_puzzle()
        lines = copy.deepcopy(self.LINES + [self.LAST])
        result = check_log(puzzle, lines)
        self.assertEqual(lines, self.LINES + [self.LAST])
        self.assertIs(type(result), tuple)
        self.assertIs(result[0], True)
        self.assertEqual(result[1], answers)
        spoil(result[1])
        self.assertEqual(lines, self.LINES + [self.LAST])
        self.assertEqual(check_log(puzzle, lines), (True, answers))
        self.assertEqual(check_log(puzzle, self.LINES), (False, answers))
        self.assertEqual(check_log(puzzle, []), (False, []))
        lines = self.LINES[:5] + [("void", {}, "x"), ("told", {}, 7)]
        self.fails(BadLine, {"number": 6, "fault": "void"}, check_log, puzzle, lines)
        self.fails(BadLine, {"number": 8, "fault": "answer"}, check_log, puzzle, self.LINES, worth=[(-1, "x")])
        self.fails(BadLine, {"number": 4, "fault": "worse"}, check_log, puzzle, self.LINES[:3] + [("worse", {})])
        best = [("answer", {"x": 1, "y": 3}), ("worse", {})]
        self.assertEqual(check_log(puzzle, best, worth=[(1, "x")]), (True, [{"x": 1, "y": 3}]))
        wrong = {"number": 2, "fault": "worse"}
        self.fails(BadLine, wrong, check_log, puzzle, best, worth=[(1, "x")], greatest=True)

    def test_without_names(self):
        checker = Checker(Puzzle([], []))
        self.accepts(checker, ("answer", {}))
        self.refuses(checker, ("told", {}, 2), "number")
        self.refuses(checker, ("told", {"x": []}, 1), "box")
        self.assertIs(checker.is_closed, False)
        self.accepts(checker, ("told", {}, 1))
        self.assertIs(checker.is_closed, True)

    def test_goes_on_after_a_refused_line(self):
        checker = Checker(small_puzzle())
        for line in self.LINES + [self.LAST]:
            self.refuses(checker, ("void", {}, "x"), "void")
            self.refuses(checker, ("join", {}, "x", checker.size + 1, 1), "number")
            self.accepts(checker, line)
        self.assertIs(checker.is_closed, True)


class BoxOfTest(CheckerCase):
    def test_numbers(self):
        checker = self.read_all(Checker(small_puzzle()), ClosedTest.LINES)
        self.assertEqual(self.ask(checker.box_of, 1), {"x": [1, 2, 3], "y": [1]})
        self.assertEqual(self.ask(checker.box_of, 13), {"x": [1, 2, 3], "y": [2, 3]})
        for number in (0, -1, -13, 4, 8, 14, 100):
            self.fails(UnknownLine, {"number": number}, checker.box_of, number)

    def test_nothing_is_shared(self):
        puzzle = small_puzzle()
        worth = [(1, "x")]
        checker = Checker(puzzle, worth=worth)
        spoil(worth)
        lines = [
            ("answer", {"x": 2, "y": 3}), ("void", {"x": [], "y": [1]}, "x"),
            ("rule", {"x": [3], "y": [2]}, "less", ("climb", [0])), ("told", {"x": [2], "y": [3]}, 1),
        ]
        self.read_all(checker, lines)
        before = copy.deepcopy(self.state(checker))
        spoil(lines)
        spoil(checker.box_of(2))
        spoil(checker.told_answers())
        self.assertEqual(self.state(checker), before)
        self.accepts(checker, ("join", {"x": [], "y": [1]}, "x", 2, 2))
        self.accepts(checker, ("answer", {"x": 1, "y": 3}))


class PlainChecker:
    """What point 34 says, word by word, by going through assignments."""

    def __init__(self, domains, rules, worth, greatest):
        self.domains = {name: sorted(set(values)) for name, values in domains}
        self.rules, self.worth, self.greatest = dict(rules), worth, greatest
        self.answers = slow_answers(domains, rules)
        self.boxes, self.told = [], []

    def better(self, one, other):
        first, second = (sum(c * values[name] for c, name in self.worth) for values in (one, other))
        return first > second if self.greatest else first < second

    def filled(self, box):
        return {name: list(box.get(name, side)) for name, side in self.domains.items()}

    def fault(self, line):
        kind = line[0]
        if kind == "answer":
            if line[1] not in self.answers or self.worth is None and line[1] in self.told:
                return "answer"
            if self.worth is not None and any(not self.better(line[1], other) for other in self.told):
                return "answer"
            return None
        for name, side in line[1].items():
            if name not in self.domains or set(side) - set(self.domains[name]):
                return "box"
        box = self.filled(line[1])
        return getattr(self, f"fault_of_{kind}")(box, *line[2:])

    def fault_of_void(self, box, name):
        if name not in self.domains:
            return "name"
        return "void" if box[name] else None

    def fault_of_rule(self, box, key, certificate):
        if key not in self.rules:
            return "key"
        return None if self.rules[key].accepts(box, certificate) else "certificate"

    def fault_of_join(self, box, name, first, second):
        if name not in self.domains:
            return "name"
        for number in (first, second):
            if number < 1 or number > len(self.boxes) or self.boxes[number - 1] is None:
                return "number"
        one, other = self.boxes[first - 1], self.boxes[second - 1]
        for each, side in box.items():
            both = set(one[each]) | set(other[each]) if each == name else set(one[each]) & set(other[each])
            if set(side) - both:
                return "join"
        return None

    def fault_of_told(self, box, number):
        if number < 1 or number > len(self.told):
            return "number"
        values = self.told[number - 1]
        return "told" if any(set(side) - {values[name]} for name, side in box.items()) else None

    def fault_of_worse(self, box):
        names = [name for _, name in self.worth or []]
        if self.worth is None or not self.told or not all(box[name] for name in names):
            return "worse"
        choices = all_in(box, names)
        if any(all(self.better(values, other) for other in self.told) for values in choices):
            return "worse"
        return None

    def read(self, line):
        if line[0] == "answer":
            self.boxes.append(None)
            self.told.append(line[1])
        else:
            self.boxes.append(self.filled(line[1]))


class RandomTest(CheckerCase):
    def random_box(self, source, plain):
        names = list(plain.domains) + ["w"] * (source.random() < 0.05)
        box = {}
        for name in source.sample(names, source.randint(0, len(names))):
            values = plain.domains.get(name, [1]) + [9] * (source.random() < 0.02)
            box[name] = sorted(source.sample(values, source.randint(0, len(values))))
        return box

    def random_line(self, source, plain):
        kind = source.choice(["void", "rule", "join", "join", "answer", "told", "worse"])
        box = self.random_box(source, plain)
        names = list(plain.domains) + ["w"]
        if kind == "void":
            return (kind, box, source.choice(names))
        if kind == "rule":
            key = source.choice(list(plain.rules) + ["w"])
            certificate = None
            if key in plain.rules and all(name in plain.domains for name in box):
                certificate = plain.rules[key].certificate(plain.filled(box))
            return (kind, box, key, certificate or ("climb", [0]))
        if kind == "join":
            size = len(plain.boxes)
            return self.random_join(source, plain, box, source.choice(names), source.randint(0, size + 1), size)
        if kind == "answer":
            values = {name: source.choice(side or [1]) for name, side in plain.domains.items()}
            return (kind, source.choice(plain.answers + [values]))
        return (kind, box, source.randint(0, len(plain.told) + 1)) if kind == "told" else (kind, box)

    def random_join(self, source, plain, box, name, first, size):
        second = source.randint(0, size + 1)
        known = [number for number in range(1, size + 1) if plain.boxes[number - 1] is not None]
        if known and source.random() < 0.7:
            first, second = source.choice(known), source.choice(known)
            one, other = plain.boxes[first - 1], plain.boxes[second - 1]
            for each in plain.domains:
                join = set(one[each]) | set(other[each]) if each == name else set(one[each]) & set(other[each])
                box[each] = sorted(value for value in join if source.random() < 0.95)
        return ("join", box, name, first, second)

    def test_random(self):
        source = seeded(89)
        faults = {}
        for _ in range(120):
            domains, rules = random_parts(source, 3, 3, least=source.choice([0, 1, 1, 1, 1]))
            names = [name for name, _ in domains]
            worth = source.choice([None, [], [(source.randint(-2, 2), name) for name in names[:2]]])
            greatest = source.random() < 0.5
            plain = PlainChecker(domains, rules, worth, greatest)
            checker = Checker(Puzzle(domains, rules), worth=worth, greatest=greatest)
            for _ in range(40):
                line = self.random_line(source, plain)
                fault = plain.fault(line)
                faults[line[0], fault] = faults.get((line[0], fault), 0) + 1
                if fault is None:
                    self.accepts(checker, line)
                    plain.read(line)
                else:
                    self.refuses(checker, line, fault)
            self.check_state(checker, plain, worth)
        self.assertGreater(min(faults.values()), 3, faults)
        self.assertEqual(len(faults), 22, sorted(faults, key=str))

    def check_state(self, checker, plain, worth):
        self.assertEqual(checker.told_answers(), plain.told)
        self.assertIs(checker.is_closed, plain.domains in plain.boxes)
        for number, box in enumerate(plain.boxes, start=1):
            if box is not None:
                self.assertEqual(self.ask(checker.box_of, number), box)
        best = None
        if worth is not None and plain.told:
            best = sum(c * plain.told[-1][name] for c, name in worth)
        self.assertEqual(checker.best_worth, best)
        self.check_closed(plain)

    def check_closed(self, plain):
        """The box of each accepted line is closed, as point 35 says."""
        for box in plain.boxes:
            for values in plain.answers:
                if box is not None and held(box, values):
                    if plain.worth is None:
                        self.assertIn(values, plain.told)
                    else:
                        self.assertTrue(any(not plain.better(values, other) for other in plain.told))


class SizeTest(CheckerCase):
    def test_many_lines(self):
        names = [f"n{number}" for number in range(8)]
        rules = [(f"r{k}", Unlike(names)) for k in range(16)]
        puzzle = Puzzle([(name, list(range(9))) for name in names], rules)
        lines = []
        for number in range(1, 1001):
            lines.append(("rule", {names[0]: [1], names[1]: [1]}, f"r{number % 16}", ("crowd", [names[0], names[1]])))
            lines.append(("join", {names[0]: [1], names[1]: [1]}, names[2], 2 * number - 1, max(1, 2 * number - 2)))
        self.assertEqual(check_log(puzzle, lines), (False, []))
        worth = [(10 ** 6, name) for name in names]
        self.assertEqual(check_log(puzzle, lines, worth=worth, greatest=True), (False, []))

    def test_wide_worth(self):
        names = [f"n{number}" for number in range(8)]
        puzzle = Puzzle([(name, list(range(9))) for name in names], [])
        checker = Checker(puzzle, worth=[(number + 1, name) for number, name in enumerate(names)])
        self.accepts(checker, ("answer", {name: 0 for name in names}))
        self.accepts(checker, ("worse", {}))
        self.assertIs(checker.is_closed, True)


if __name__ == "__main__":
    unittest.main()
