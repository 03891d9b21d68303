import copy
import unittest

from curbdesk.books import copied_line, pruned, renumbered, rests_on, without_key
from curbdesk.checker import check_log
from curbdesk.derive import closing_lines
from curbdesk.errors import UnknownLine
from curbdesk.puzzles import Puzzle
from tests.support import DeskCase, mutables, random_parts, seeded, slow_answers, spoil

CLIMB = ("climb", [0])
LINES = [
    ("rule", {"x": [3]}, "b", CLIMB),
    ("void", {"y": []}, "y"),
    ("rule", {"x": [2]}, "a", ("layers", [[0], [1, 2]])),
    ("join", {"x": [2, 3]}, "x", 3, 1),
    ("join", {"x": [], "y": [1]}, "y", 2, 2),
    ("rule", {"x": [3], "y": [1]}, "b", ("crowd", ["x", "y"])),
    ("join", {"x": [2]}, "x", 4, 6),
    ("join", {"x": [3]}, "x", 1, 1),
]


def slow_used(lines, number):
    """Return the numbers of the line and of the lines that it uses."""
    line = lines[number - 1]
    used = {number}
    if line[0] == "join":
        used |= slow_used(lines, line[3]) | slow_used(lines, line[4])
    return used


def slow_keys(lines, number):
    return {lines[each - 1][2] for each in slow_used(lines, number) if lines[each - 1][0] == "rule"}


def slow_picked(lines, numbers):
    numbers = sorted(numbers)
    picked = []
    for number in numbers:
        line = copy.deepcopy(lines[number - 1])
        if line[0] == "join":
            line = line[:3] + (numbers.index(line[3]) + 1, numbers.index(line[4]) + 1)
        picked.append(line)
    return picked


def random_log(source):
    """Return plain lines that no checker needs to accept."""
    lines = []
    for number in range(source.randint(0, 12)):
        box = {"x": [source.randint(0, 3)]}
        kind = source.choice(["void", "rule", "join", "join"])
        if kind == "join" and number > 0:
            lines.append(("join", box, "x", source.randint(1, number), source.randint(1, number)))
        elif kind == "void":
            lines.append(("void", box, "x"))
        else:
            lines.append(("rule", box, source.choice("abc"), source.choice([CLIMB, ("empty", "x")])))
    return lines


class BooksCase(DeskCase):
    def setUp(self):
        super().setUp()
        self.lines = copy.deepcopy(LINES)


class RestsOnTest(BooksCase):
    def test_ordinary(self):
        expected = [["b"], [], ["a"], ["a", "b"], [], ["b"], ["a", "b"], ["b"]]
        self.assertEqual([self.ask(rests_on, self.lines, number) for number in range(1, 9)], expected)

    def test_errors(self):
        for number in (0, -1, -8, 9, 100):
            self.fails(UnknownLine, {"number": number}, rests_on, self.lines, number)
            self.fails(UnknownLine, {"number": number}, pruned, self.lines, number)
        for number in (0, 1, -1):
            self.fails(UnknownLine, {"number": number}, rests_on, [], number)
            self.fails(UnknownLine, {"number": number}, pruned, [], number)

    def test_random(self):
        source = seeded(101)
        for _ in range(150):
            lines = random_log(source)
            for number in range(1, len(lines) + 1):
                self.assertEqual(self.ask(rests_on, lines, number), sorted(slow_keys(lines, number)))


class PrunedTest(BooksCase):
    def test_ordinary(self):
        self.assertEqual(self.ask(pruned, self.lines, 1), [LINES[0]])
        self.assertEqual(self.ask(pruned, self.lines, 2), [LINES[1]])
        self.assertEqual(self.ask(pruned, self.lines, 5), [LINES[1], ("join", {"x": [], "y": [1]}, "y", 1, 1)])
        self.assertEqual(self.ask(pruned, self.lines, 8), [LINES[0], ("join", {"x": [3]}, "x", 1, 1)])
        self.assertEqual(self.ask(pruned, self.lines, 7), [
            LINES[0], LINES[2], ("join", {"x": [2, 3]}, "x", 2, 1), LINES[5], ("join", {"x": [2]}, "x", 3, 4)])

    def test_random(self):
        source = seeded(102)
        for _ in range(150):
            lines = random_log(source)
            for number in range(1, len(lines) + 1):
                expected = slow_picked(lines, slow_used(lines, number))
                self.assertEqual(self.ask(pruned, lines, number), expected)


class WithoutKeyTest(BooksCase):
    def test_ordinary(self):
        self.assertEqual(self.ask(without_key, self.lines, "b"), [
            LINES[1], LINES[2], ("join", {"x": [], "y": [1]}, "y", 1, 1)])
        self.assertEqual(self.ask(without_key, self.lines, "a"), [
            LINES[0], LINES[1], ("join", {"x": [], "y": [1]}, "y", 2, 2), LINES[5],
            ("join", {"x": [3]}, "x", 1, 1)])
        # The name of a void or join line is no key.
        for key in ("c", "x", "y"):
            self.assertEqual(self.ask(without_key, self.lines, key), LINES)
        self.assertEqual(self.ask(without_key, [], "a"), [])
        self.assertEqual(self.ask(without_key, self.lines[:1], "b"), [])

    def test_random(self):
        source = seeded(103)
        for _ in range(150):
            lines = random_log(source)
            for key in "abcd":
                others = [number for number in range(1, len(lines) + 1) if key not in slow_keys(lines, number)]
                self.assertEqual(self.ask(without_key, lines, key), slow_picked(lines, others))


class RenumberedTest(BooksCase):
    def test_ordinary(self):
        self.assertEqual(self.ask(renumbered, self.lines, 0), LINES)
        moved = self.ask(renumbered, self.lines, 5)
        self.assertEqual([line[3:] for line in moved if line[0] == "join"], [(8, 6), (7, 7), (9, 11), (6, 6)])
        self.assertEqual([line[:3] for line in moved], [line[:3] for line in LINES])
        self.assertEqual(self.ask(renumbered, self.lines[4:5], 10 ** 12)[0][3:], (10 ** 12 + 2, 10 ** 12 + 2))
        self.assertEqual(self.ask(renumbered, [], 3), [])

    def test_nothing_is_shared(self):
        for lines in (renumbered(self.lines, 0), pruned(self.lines, 7), without_key(self.lines, "c")):
            places = [id(part) for part in mutables([lines, self.lines])]
            self.assertEqual(len(places), len(set(places)))
            spoil(lines)
            self.assertEqual(self.lines, LINES)


class CopiedLineTest(BooksCase):
    def test_every_kind(self):
        for line in LINES + [("answer", {"x": 1}), ("told", {"x": [1]}, 2), ("worse", {"x": []}), ("worse", {}),
                             ("rule", {"x": []}, "a", ("empty", "x")), ("rule", {}, "a", ("blame", []))]:
            self.assertEqual(self.ask(copied_line, line), line)


class CheckedTest(DeskCase):
    def test_random(self):
        source = seeded(104)
        lengths = 0
        for _ in range(120):
            domains, rules = random_parts(source, 3, 4)
            if slow_answers(domains, rules):
                continue
            puzzle = Puzzle(domains, rules)
            lines = closing_lines(puzzle, {})
            lengths += len(lines)
            for number in range(1, len(lines) + 1):
                part = pruned(lines, number)
                check_log(puzzle, part)
                self.assertEqual(part[-1][1], lines[number - 1][1])
            for key in puzzle.rule_keys:
                part = without_key(lines, key)
                check_log(puzzle, part)
                check_log(puzzle.without_rule(key), part)
            twice = lines + renumbered(lines, len(lines))
            check_log(puzzle, twice)
        self.assertGreater(lengths, 200)

    def test_many_lines(self):
        lines = [("rule", {"x": [1]}, f"r{number}", CLIMB) for number in range(16)]
        lines.extend(("join", {"x": [1]}, "x", number, number - number % 2) for number in range(16, 2000))
        self.assertEqual(rests_on(lines, 2000), ["r15"])
        self.assertEqual(len(pruned(lines, 2000)), 1985)
        self.assertEqual(len(without_key(lines, "r15")), 15)
        self.assertEqual(len(without_key(lines, "r3")), 1999)
        self.assertEqual(renumbered(lines, 10 ** 12)[-1][3], 10 ** 12 + 1999)


if __name__ == "__main__":
    unittest.main()
