import unittest

from curbdesk.boxes import meet_boxes
from curbdesk.checker import check_log
from curbdesk.counts import Counts
from curbdesk.derive import clash_lines, closing_lines, strike_lines
from curbdesk.errors import HoldsAnswer, NoClash, NotStruck, UnknownName, UnknownValue
from curbdesk.puzzles import Puzzle
from curbdesk.rings import Ring
from curbdesk.settle import settled_box
from curbdesk.sums import Sum
from curbdesk.tables import Table
from curbdesk.unlike import Unlike
from tests.support import (
    DeskCase, hard_parts, random_assumptions, random_parts, seeded, slow_answers, slow_settled,
)


def chain_puzzle():
    """Return a puzzle in which x is below y, and y below z."""
    domains = [(name, [1, 2, 3, 4]) for name in "xyz"]
    return Puzzle(domains, [("a", Ring([("x", "y", -1)])), ("b", Ring([("y", "z", -1)]))])


def meet_of(assumptions):
    box = {}
    for name, side in assumptions:
        box = meet_boxes(box, {name: side})
    return box


class DeriveCase(DeskCase):
    def check_log(self, puzzle, lines, box):
        """Check that a checker accepts the lines, and that the last one, and only that, has the box."""
        check_log(puzzle, lines)
        boxes = [line[1] for line in lines]
        self.assertEqual(boxes[-1], box)
        self.assertNotIn(box, boxes[:-1])
        for line in lines:
            self.assertIs(type(line), tuple)
            self.assertIn(line[0], ("void", "rule", "join"))

    def check_length(self, puzzle, lines):
        count = sum(len(side) for _, side in puzzle.domains())
        self.assertLessEqual(len(lines), 2 * count + 2)


class ClashLinesTest(DeriveCase):
    def check_clash(self, puzzle, assumptions):
        lines = self.ask(clash_lines, puzzle, assumptions)
        self.check_log(puzzle, lines, meet_of(assumptions))
        self.check_length(puzzle, lines)
        return lines

    def test_ordinary(self):
        puzzle = chain_puzzle()
        for assumptions in ([("z", [1, 2])], [("x", [3, 4])], [("x", [2]), ("z", [3])], [("z", [3]), ("y", [3, 4])]):
            self.check_clash(puzzle, assumptions)

    def test_no_assumptions(self):
        puzzle = chain_puzzle().with_rules([("c", Ring([("z", "x", 1)]))])
        self.assertEqual(self.check_clash(puzzle, [])[-1][1], {})

    def test_assumptions_that_say_nothing(self):
        puzzle = chain_puzzle()
        lines = self.check_clash(puzzle, [("y", [1, 2, 3, 4]), ("z", [2])])
        self.assertEqual(lines[-1][1], {"y": [1, 2, 3, 4], "z": [2]})

    def test_one_line(self):
        puzzle = chain_puzzle()
        self.assertEqual(self.check_clash(puzzle, [("x", [])]), [("void", {"x": []}, "x")])
        self.assertEqual(self.check_clash(puzzle, [("y", [1]), ("x", [1, 2]), ("x", [3, 4]), ("z", [1])]),
                         [("void", {"x": [], "y": [1], "z": [1]}, "x")])
        empty = Puzzle([("x", [1]), ("y", [])], [])
        self.assertEqual(self.check_clash(empty, []), [("void", {}, "y")])
        self.assertEqual(self.check_clash(empty, [("x", [1]), ("x", [])]), [("void", {"x": []}, "y")])
        self.assertEqual(self.check_clash(empty, [("y", [])]), [("void", {"y": []}, "y")])

    def test_the_reason_has_the_box_already(self):
        puzzle = Puzzle([("x", [1, 2]), ("y", [1, 2])], [("t", Table(["x"], [(2,)]))])
        lines = self.check_clash(puzzle, [("x", [1])])
        self.assertEqual(lines, [("rule", {"x": [1]}, "t", ("blame", ["x"]))])

    def test_no_clash(self):
        self.fails(NoClash, {}, clash_lines, chain_puzzle(), [("x", [1, 2]), ("z", [3, 4])])
        self.fails(NoClash, {}, clash_lines, chain_puzzle(), [])
        self.fails(NoClash, {}, clash_lines, Puzzle([], []), [])

    def test_errors(self):
        puzzle = chain_puzzle()
        self.fails(UnknownName, {"name": "w"}, clash_lines, puzzle, [("x", []), ("w", [1]), ("x", [7])])
        self.fails(UnknownValue, {"name": "x", "value": 7}, clash_lines, puzzle, [("x", []), ("x", [1, 7, 8]), ("w", [])])

    def test_random(self):
        source = seeded(105)
        clashes = 0
        for number in range(400):
            domains, rules = random_parts(source, least=source.choice([0, 1, 1, 1, 1]))
            if number % 4 == 0:
                domains, rules = hard_parts(source)
            puzzle, assumptions = Puzzle(domains, rules), random_assumptions(source, domains, 5)
            if all(slow_settled(domains, rules, assumptions).values()):
                self.fails(NoClash, {}, clash_lines, puzzle, assumptions)
            else:
                clashes += 1
                self.check_clash(puzzle, assumptions)
        self.assertGreater(clashes, 120)

    def full_puzzle(self):
        """Return a puzzle at the size of point 3."""
        names = [f"n{number}" for number in range(8)]
        rules = [(f"u{k}", Unlike(names)) for k in range(4)]
        rules.extend((f"o{k}", Ring([(one, other, -1)])) for k, (one, other) in enumerate(zip(names, names[1:])))
        rules.extend((f"c{k}", Counts(names, [(value, 0, 1) for value in range(9)])) for k in range(2))
        rules.append(("s", Sum([(7 ** k, name) for k, name in enumerate(names[:3])], low=0, high=400)))
        rules.append(("t", Table(names, [[(row + place) // 8 for place in range(8)] for row in range(64)])))
        rules.append(("v", Ring([(one, other, 8) for one in names for other in names])))
        return Puzzle([(name, list(range(9))) for name in names], rules)

    def test_full_size(self):
        puzzle = self.full_puzzle().without_rule("t")
        assumptions = [(name, [value for value in range(9) if value not in (4, 8)]) for name in puzzle.names] * 2
        self.check_clash(puzzle, assumptions)
        for name, value in (("n0", 2), ("n7", 3), ("n4", 0), ("n3", 8)):
            lines = self.ask(strike_lines, puzzle, [("n1", list(range(1, 9)))] * 16, name, value)
            self.check_length(puzzle, lines)
            check_log(puzzle, lines)
        self.check_clash(self.full_puzzle(), [])


class StrikeLinesTest(DeriveCase):
    def check_strike(self, puzzle, assumptions, name, value):
        lines = self.ask(strike_lines, puzzle, assumptions, name, value)
        self.check_log(puzzle, lines, meet_boxes(meet_of(assumptions), {name: [value]}))
        self.check_length(puzzle, lines)
        return lines

    def test_ordinary(self):
        puzzle = chain_puzzle()
        self.assertEqual(self.check_strike(puzzle, [], "x", 4)[-1][1], {"x": [4]})
        self.check_strike(puzzle, [], "x", 3)
        self.check_strike(puzzle, [("y", [2])], "x", 2)
        self.check_strike(puzzle, [("y", [1, 2])], "y", 1)
        self.check_strike(puzzle, [("y", [1, 2]), ("x", [1, 2, 3, 4])], "z", 2)

    def test_value_that_an_assumption_lacks(self):
        lines = self.check_strike(chain_puzzle(), [("x", [1]), ("z", [4])], "x", 2)
        self.assertEqual(lines, [("void", {"x": [], "z": [4]}, "x")])

    def test_clash(self):
        puzzle = chain_puzzle()
        lines = self.check_strike(puzzle, [("x", [3]), ("z", [3])], "y", 2)
        self.assertEqual(lines[-1][1], {"x": [3], "z": [3], "y": [2]})
        self.assertEqual(self.check_strike(puzzle, [("x", [])], "y", 2), [("void", {"x": [], "y": [2]}, "x")])
        self.assertEqual(self.check_strike(puzzle, [("x", [])], "x", 2), [("void", {"x": []}, "x")])
        empty = Puzzle([("x", [1]), ("y", [])], [])
        self.assertEqual(self.check_strike(empty, [], "x", 1), [("void", {"x": [1]}, "y")])

    def test_errors(self):
        puzzle = chain_puzzle()
        wrong = [("x", [1]), ("w", [1]), ("x", [7])]
        self.fails(UnknownName, {"name": "w"}, strike_lines, puzzle, wrong, "v", 9)
        self.fails(UnknownValue, {"name": "x", "value": 7}, strike_lines, puzzle, [("x", [1, 7])], "v", 9)
        self.fails(UnknownName, {"name": "v"}, strike_lines, puzzle, [("x", [1])], "v", 9)
        self.fails(UnknownValue, {"name": "x", "value": 9}, strike_lines, puzzle, [("x", [1])], "x", 9)
        self.fails(NotStruck, {"name": "x", "value": 1}, strike_lines, puzzle, [("x", [1])], "x", 1)
        self.fails(NotStruck, {"name": "x", "value": 2}, strike_lines, puzzle, [], "x", 2)

    def test_random(self):
        source = seeded(106)
        found = [0, 0]
        for number in range(400):
            domains, rules = random_parts(source)
            if number % 4 == 0:
                domains, rules = hard_parts(source)
            puzzle, assumptions = Puzzle(domains, rules), random_assumptions(source, domains, 4)
            name, values = source.choice(domains)
            value = source.choice(values)
            struck = value not in settled_box(puzzle, assumptions=assumptions)[name]
            found[struck] += 1
            if struck:
                self.check_strike(puzzle, assumptions, name, value)
            else:
                attributes = {"name": name, "value": value}
                self.fails(NotStruck, attributes, strike_lines, puzzle, assumptions, name, value)
        self.assertGreater(min(found), 70)


class ClosingLinesTest(DeriveCase):
    def check_closing(self, puzzle, box):
        lines = self.ask(closing_lines, puzzle, box)
        self.check_log(puzzle, lines, box)
        return lines

    def test_ordinary(self):
        puzzle = chain_puzzle()
        for box in ({"x": [3]}, {"z": [1, 2]}, {"x": [2, 3], "z": [3]}, {"y": [1, 4]}):
            self.check_closing(puzzle, box)

    def test_by_cases(self):
        puzzle = Puzzle([(name, [1, 2]) for name in "wxyz"], [
            ("a", Unlike(["x", "y"])), ("b", Unlike(["y", "z"])), ("c", Unlike(["x", "z"]))])
        lines = self.check_closing(puzzle, {})
        self.assertEqual(check_log(puzzle, lines), (True, []))
        self.check_closing(puzzle, {"w": [1]})
        self.check_closing(puzzle, {"w": [2], "y": [1, 2]})

    def test_whole_domains(self):
        puzzle = chain_puzzle()
        self.check_closing(puzzle, {"x": [4], "y": [1, 2, 3, 4]})
        self.check_closing(puzzle, {"x": [4], "y": [1, 2, 3, 4], "z": [1, 2, 3, 4]})
        shut = puzzle.with_rules([("c", Table(["z"], []))])
        self.check_closing(shut, {})
        self.check_closing(shut, {"x": [1, 2, 3, 4], "y": [1, 2, 3, 4], "z": [1, 2, 3, 4]})
        self.check_closing(shut, {"x": [1, 2, 3, 4]})

    def test_empty_sides(self):
        puzzle = chain_puzzle()
        self.assertEqual(self.check_closing(puzzle, {"y": []}), [("void", {"y": []}, "y")])
        self.check_closing(puzzle, {"x": [1], "y": [], "z": []})
        empty = Puzzle([("x", [1]), ("y", [])], [])
        self.assertEqual(self.check_closing(empty, {}), [("void", {}, "y")])
        self.check_closing(empty, {"x": [1], "y": []})
        self.check_closing(empty, {"x": []})

    def test_errors(self):
        puzzle = chain_puzzle()
        self.fails(UnknownName, {"name": "w"}, closing_lines, puzzle, {"x": [], "w": [1], "y": [7]})
        self.fails(UnknownValue, {"name": "x", "value": 7}, closing_lines, puzzle, {"x": [7, 8], "w": [1]})
        self.fails(HoldsAnswer, {"answer": {"x": 1, "y": 2, "z": 3}}, closing_lines, puzzle, {})
        self.fails(HoldsAnswer, {"answer": {"x": 2, "y": 3, "z": 4}}, closing_lines, puzzle, {"x": [2, 3]})
        self.fails(HoldsAnswer, {"answer": {}}, closing_lines, Puzzle([], []), {})

    def test_random(self):
        source = seeded(107)
        closed = joined = 0
        for number in range(700):
            domains, rules = random_parts(source, least=source.choice([0, 1, 1, 1]))
            if number % 2 == 0:
                domains, rules = hard_parts(source)
            puzzle, box = Puzzle(domains, rules), {}
            for name, values in source.sample(domains, source.randint(0, len(domains))):
                box[name] = [value for value in sorted(set(values)) if source.random() < source.choice([0.7, 1])]
            answers = slow_answers(domains, rules, box)
            if answers:
                self.fails(HoldsAnswer, {"answer": answers[0]}, closing_lines, puzzle, box)
            else:
                closed += 1
                self.check_closing(puzzle, box)
                joined += all(settled_box(puzzle, assumptions=list(box.items())).values())
        self.assertGreater(closed, 100)
        self.assertGreater(joined, 5)

    def test_full_size(self):
        names = list("abcdefg")
        even = [[number >> place & 1 for place in range(6)] for number in range(64)]
        even = [row + [sum(row) % 2] for row in even]
        odd = [row[:6] + [1 - row[6]] for row in even]
        domains = [(name, [0, 1]) for name in names] + [("h", [0, 1]), ("i", [0, 1])]
        puzzle = Puzzle(domains, [(f"e{k}", Table(names, even)) for k in range(15)] + [("o", Table(names, odd))])
        lines = closing_lines(puzzle, {})
        self.check_log(puzzle, lines, {})
        self.assertEqual(check_log(puzzle, lines), (True, []))
        triple = Puzzle([(name, list(range(8))) for name in "abc"], [
            ("s", Sum([(1, "a"), (8, "b"), (64, "c")], low=0)), ("t", Sum([(2, "a"), (4, "b"), (6, "c")], low=7, high=7))])
        self.check_log(triple, closing_lines(triple, {"c": list(range(7))}), {"c": list(range(7))})


if __name__ == "__main__":
    unittest.main()
