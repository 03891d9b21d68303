import itertools
import unittest

from curbdesk.counts import Counts
from curbdesk.errors import RepeatedKey, RepeatedName, UnknownKey, UnknownName, UnknownValue
from curbdesk.puzzles import Puzzle, check_box, check_sides
from curbdesk.rings import Ring
from curbdesk.tables import Table
from curbdesk.unlike import Unlike
from tests.support import DeskCase, random_parts, seeded, slow_answers

DOMAINS = [("y", [3, 1, 1]), ("x", [2, 1]), ("z", [])]


def everything(puzzle):
    """Return all that can be asked of a puzzle."""
    return (
        puzzle.names, puzzle.rule_keys, puzzle.room, list(puzzle), [puzzle.domain(name) for name in puzzle.names],
        puzzle.domains(), puzzle.box(), [puzzle.rule(key).names for key in puzzle.rule_keys],
    )


class PuzzleTest(DeskCase):
    def test_attributes(self):
        puzzle = Puzzle(DOMAINS, [("r2", Unlike(["x", "y"])), ("r1", Unlike(["z"]))])
        self.assertEqual(puzzle.names, ("y", "x", "z"))
        self.assertEqual(puzzle.rule_keys, ("r2", "r1"))
        self.assertEqual([type(puzzle.names), type(puzzle.rule_keys)], [tuple, tuple])
        self.assertEqual(puzzle.room, 0)
        self.assertEqual(Puzzle(DOMAINS[:2], []).room, 4)
        self.assertEqual(Puzzle([], []).room, 1)

    def test_names(self):
        puzzle = Puzzle(DOMAINS, [])
        self.assertIs("x" in puzzle, True)
        self.assertIs("z" in puzzle, True)
        self.assertIs("w" in puzzle, False)
        self.assertEqual(list(puzzle), ["y", "x", "z"])
        self.assertEqual([name for name in puzzle], ["y", "x", "z"])
        self.assertEqual(list(Puzzle([], [])), [])

    def test_domains(self):
        puzzle = Puzzle(DOMAINS, [])
        self.assertEqual(self.ask(puzzle.domain, "y"), [1, 3])
        self.assertEqual(self.ask(puzzle.domain, "z"), [])
        self.assertEqual(self.ask(puzzle.domains), [("y", [1, 3]), ("x", [1, 2]), ("z", [])])
        self.assertEqual(self.ask(puzzle.box), {"y": [1, 3], "x": [1, 2], "z": []})
        self.assertEqual([type(pair) for pair in puzzle.domains()], [tuple] * 3)
        self.fails(UnknownName, {"name": "w"}, puzzle.domain, "w")

    def test_rule(self):
        puzzle = Puzzle(DOMAINS, [("a", Unlike(["x", "y"])), ("b", Table(["x"], [(2,)]))])
        self.assertEqual(puzzle.rule("b").witness({"x": [1, 2]}), {"x": 2})
        self.assertEqual(puzzle.rule("a").names, ("x", "y"))
        self.fails(UnknownKey, {"key": "c"}, puzzle.rule, "c")
        again = Puzzle(DOMAINS, [("c", puzzle.rule("b"))])
        self.assertEqual(again.rule("c").supported({"x": [1, 2]}, "x"), [2])

    def test_same_rule_under_several_keys(self):
        rule = Unlike(["x", "y"])
        puzzle = Puzzle(DOMAINS, [("a", rule), ("b", rule)])
        self.assertEqual(puzzle.rule_keys, ("a", "b"))
        self.assertEqual(puzzle.without_rule("a").rule_keys, ("b",))
        self.assertEqual(puzzle.with_rules([("c", rule)]).rule_keys, ("a", "b", "c"))

    def test_errors(self):
        rule = Unlike(["x", "w", "v"])
        fine = Unlike(["x"])
        self.fails(RepeatedName, {"name": "x"}, Puzzle, DOMAINS + [("x", [1]), ("y", [1])], [("a", rule)])
        self.fails(UnknownName, {"name": "w"}, Puzzle, DOMAINS, [("a", rule)])
        self.fails(RepeatedKey, {"key": "a"}, Puzzle, DOMAINS, [("a", fine), ("a", rule)])
        self.fails(UnknownName, {"name": "w"}, Puzzle, DOMAINS, [("a", fine), ("b", rule), ("a", fine)])
        self.fails(RepeatedKey, {"key": "b"}, Puzzle, DOMAINS, [("a", fine), ("b", fine), ("b", fine), ("a", fine)])
        self.fails(UnknownName, {"name": "v"}, Puzzle, [], [("a", Unlike(["v", "w"]))])

    def test_allows(self):
        puzzle = Puzzle([("x", [1, 2]), ("y", [1, 2])], [("a", Unlike(["x", "y"])), ("b", Ring([("x", "y", 0)]))])
        self.assertIs(self.ask(puzzle.allows, {"y": 2, "x": 1}), True)
        for values in (
            {"x": 2, "y": 1}, {"x": 1, "y": 1}, {"x": 1, "y": 3}, {"x": 0, "y": 2}, {"x": 1}, {"y": 2}, {},
            {"x": 1, "y": 2, "z": 1}, {"x": 1, "z": 2}, {"v": 1, "w": 2}, {"x": 1, "y": 10 ** 40},
        ):
            self.assertIs(self.ask(puzzle.allows, values), False, values)

    def test_allows_without_rules_and_names(self):
        self.assertIs(Puzzle([], []).allows({}), True)
        self.assertIs(Puzzle([], []).allows({"x": 1}), False)
        self.assertIs(Puzzle([("x", [1])], []).allows({"x": 1}), True)
        self.assertIs(Puzzle([("x", [])], []).allows({"x": 1}), False)

    def test_allows_at_random(self):
        source = seeded(62)
        for _ in range(60):
            domains, rules = random_parts(source, 3)
            puzzle = Puzzle(domains, rules)
            answers = slow_answers(domains, rules)
            for row in itertools.product(range(-1, 4), repeat=len(domains)):
                values = dict(zip(puzzle.names, row))
                self.assertIs(puzzle.allows(values), values in answers)

    def test_with_rules(self):
        puzzle = Puzzle(DOMAINS, [("a", Unlike(["x", "y"]))])
        before = everything(puzzle)
        larger = puzzle.with_rules([("c", Table(["x"], [(2,)])), ("b", Counts(["y"], []))])
        self.assertEqual(larger.rule_keys, ("a", "c", "b"))
        self.assertEqual(larger.domains(), puzzle.domains())
        self.assertEqual(larger.rule("c").witness({"x": [1, 2]}), {"x": 2})
        self.assertEqual(puzzle.with_rules([]).rule_keys, ("a",))
        self.assertEqual(everything(puzzle), before)

    def test_errors_of_with_rules(self):
        puzzle = Puzzle(DOMAINS, [("a", Unlike(["x", "y"]))])
        before = everything(puzzle)
        bad, fine = Unlike(["w"]), Unlike(["x"])
        self.fails(RepeatedKey, {"key": "a"}, puzzle.with_rules, [("a", bad)])
        self.fails(UnknownName, {"name": "w"}, puzzle.with_rules, [("b", bad), ("a", fine)])
        self.fails(RepeatedKey, {"key": "b"}, puzzle.with_rules, [("b", fine), ("b", bad)])
        self.assertEqual(everything(puzzle), before)

    def test_without_rule(self):
        rules = [("a", Table(["x"], [(1,)])), ("b", Table(["x"], [(2,)])), ("c", Unlike(["x"]))]
        puzzle = Puzzle([("x", [1, 2])], rules)
        before = everything(puzzle)
        smaller = puzzle.without_rule("a")
        self.assertEqual(smaller.rule_keys, ("b", "c"))
        self.assertIs(smaller.allows({"x": 2}), True)
        self.assertEqual(puzzle.without_rule("c").without_rule("b").rule_keys, ("a",))
        self.fails(UnknownKey, {"key": "d"}, puzzle.without_rule, "d")
        self.fails(UnknownKey, {"key": "a"}, smaller.without_rule, "a")
        self.assertEqual(everything(puzzle), before)
        self.assertEqual(smaller.with_rules([("a", Unlike(["x"]))]).rule_keys, ("b", "c", "a"))

    def test_later_changes_have_no_effect(self):
        domains, rules = [("x", [2, 1]), ("y", [1])], [("a", Unlike(["x"]))]
        puzzle = Puzzle(domains, rules)
        before = everything(puzzle)
        domains[0][1].append(5)
        domains.append(("z", [1]))
        rules.append(("b", Unlike(["y"])))
        for thing in (puzzle.domains(), puzzle.domain("x")):
            thing.append(9)
        puzzle.domains()[0][1].append(9)
        puzzle.box()["x"].append(9)
        puzzle.box()["w"] = [9]
        self.assertEqual(everything(puzzle), before)
        more = [("b", Unlike(["x", "y"]))]
        larger = puzzle.with_rules(more)
        more.append(("c", Unlike(["x"])))
        self.assertEqual(larger.rule_keys, ("a", "b"))

    def test_arguments_stay(self):
        domains, rule = [("x", [2, 1, 2])], Unlike(["x"])
        rules = [("a", rule)]
        puzzle = Puzzle(domains, rules)
        puzzle.with_rules(rules[:0])
        self.assertEqual(domains, [("x", [2, 1, 2])])
        self.assertEqual(rules, [("a", rule)])


class CheckTest(DeskCase):
    def test_box(self):
        puzzle = Puzzle([("x", [1, 2]), ("y", [1, 2]), ("z", [])], [])
        self.assertIsNone(check_box(puzzle, {}))
        self.assertIsNone(check_box(puzzle, {"y": [1, 2], "x": [], "z": []}))
        self.fails(UnknownName, {"name": "w"}, check_box, puzzle, {"x": [1], "w": [], "y": [7]})
        self.fails(UnknownValue, {"name": "y", "value": 0}, check_box, puzzle, {"x": [1], "y": [0, 1, 7], "w": []})
        self.fails(UnknownValue, {"name": "x", "value": 3}, check_box, puzzle, {"x": [1, 3, 4], "w": []})
        self.fails(UnknownValue, {"name": "z", "value": 1}, check_box, puzzle, {"z": [1]})

    def test_sides(self):
        puzzle = Puzzle([("x", [1, 2]), ("y", [1, 2])], [])
        self.assertIsNone(check_sides(puzzle, [("x", [1]), ("x", [2]), ("y", [])]))
        self.fails(UnknownName, {"name": "w"}, check_sides, puzzle, [("x", [1]), ("w", [1]), ("x", [5])])
        self.fails(UnknownValue, {"name": "x", "value": 5}, check_sides, puzzle, [("x", [1]), ("x", [5]), ("w", [1])])


if __name__ == "__main__":
    unittest.main()
