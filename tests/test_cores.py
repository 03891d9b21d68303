import unittest

from curbdesk.cores import least_rules, widest_closed
from curbdesk.errors import HoldsAnswer, UnknownName, UnknownValue
from curbdesk.puzzles import Puzzle
from curbdesk.rings import Ring
from curbdesk.sums import Sum
from curbdesk.tables import Table
from curbdesk.unlike import Unlike
from tests.support import DeskCase, random_parts, seeded, slow_answers

FULL = [(name, [1, 2]) for name in "abcdefgh"] + [("i", [1, 2])]


def slow_least_rules(domains, rules, box):
    left = list(rules)
    for rule in reversed(rules):
        others = [other for other in left if other is not rule]
        if not slow_answers(domains, others, box):
            left = others
    return [key for key, _ in left]


def slow_widest_closed(domains, rules, box):
    """Widen the box value by value, word by word as point 31 says. It holds no answer."""
    whole = {name: sorted(set(values)) for name, values in domains}
    wide = {name: box.get(name, side) for name, side in whole.items()}
    for name, side in whole.items():
        for value in side:
            if value not in wide[name]:
                wider = {**wide, name: sorted(wide[name] + [value])}
                if not slow_answers(domains, rules, wider):
                    wide = wider
    return {name: side for name, side in wide.items() if side != whole[name]}


def random_box_of(source, domains):
    """Return a box that lists some of the names, some with their whole domains."""
    box = {}
    for name, values in source.sample(domains, source.randint(0, len(domains))):
        box[name] = [value for value in sorted(set(values)) if source.random() < source.choice([0.6, 1])]
    return box


class CoresCase(DeskCase):
    def check_errors(self, function):
        puzzle = Puzzle([("x", [2, 1]), ("y", [1, 2])], [("a", Unlike(["x", "y"]))])
        self.fails(UnknownName, {"name": "w"}, function, puzzle, {"x": [1], "w": [], "y": [7]})
        self.fails(UnknownValue, {"name": "x", "value": 0}, function, puzzle, {"x": [0, 1, 3], "w": []})
        self.fails(HoldsAnswer, {"answer": {"x": 1, "y": 2}}, function, puzzle, {})
        error = self.fails(HoldsAnswer, {"answer": {"x": 2, "y": 1}}, function, puzzle, {"y": [1]})
        error.answer["x"] = 7
        self.fails(HoldsAnswer, {"answer": {"x": 2, "y": 1}}, function, puzzle, {"y": [1]})
        self.fails(HoldsAnswer, {"answer": {}}, function, Puzzle([], []), {})
        order = Puzzle([("y", [2, 1]), ("x", [2, 1])], [])
        self.fails(HoldsAnswer, {"answer": {"y": 1, "x": 2}}, function, order, {"x": [2], "y": [1, 2]})


class LeastRulesTest(CoresCase):
    def test_ordinary(self):
        rules = [("c", Ring([("x", "y", -1)])), ("a", Unlike(["x", "y"])), ("b", Table(["x"], [(2,)]))]
        puzzle = Puzzle([("x", [1, 2]), ("y", [1, 2])], rules)
        self.assertEqual(self.ask(least_rules, puzzle, {}), ["c", "b"])
        self.assertEqual(self.ask(least_rules, puzzle, {"y": [2]}), ["c", "b"])
        self.assertEqual(self.ask(least_rules, puzzle.without_rule("c"), {"y": [2]}), ["a", "b"])
        self.assertEqual(self.ask(least_rules, puzzle, {"y": [1]}), ["c"])
        self.assertEqual(self.ask(least_rules, puzzle, {"x": [1]}), ["b"])
        self.assertEqual(self.ask(least_rules, puzzle, {"x": [1, 2], "y": [1, 2]}), ["c", "b"])

    def test_from_the_last_one(self):
        rule = Table(["x"], [])
        puzzle = Puzzle([("x", [1])], [("b", rule), ("a", rule), ("c", rule)])
        self.assertEqual(self.ask(least_rules, puzzle, {}), ["b"])

    def test_no_rule_is_needed(self):
        puzzle = Puzzle([("x", [1]), ("y", [1])], [("a", Unlike(["x", "y"]))])
        self.assertEqual(self.ask(least_rules, puzzle, {"x": []}), [])
        self.assertEqual(self.ask(least_rules, Puzzle([("x", []), ("y", [1])], []), {}), [])
        self.assertEqual(self.ask(least_rules, Puzzle([("x", [])], [("a", Unlike(["x"]))]), {"x": []}), [])

    def test_errors(self):
        self.check_errors(least_rules)

    def test_random(self):
        source = seeded(86)
        closed = 0
        for _ in range(250):
            domains, rules = random_parts(source, least=source.choice([0, 1, 1, 1]))
            puzzle, box = Puzzle(domains, rules), random_box_of(source, domains)
            answers = slow_answers(domains, rules, box)
            if answers:
                self.fails(HoldsAnswer, {"answer": answers[0]}, least_rules, puzzle, box)
            else:
                closed += 1
                self.assertEqual(self.ask(least_rules, puzzle, box), slow_least_rules(domains, rules, box))
        self.assertGreater(closed, 80)

    def test_full_size(self):
        names = [name for name, _ in FULL[:8]]
        rules = [(f"s{k}", Sum([(1, name) for name in names], low=k % 3)) for k in range(14)]
        rules.extend([("p", Sum([(1, name) for name in names], low=16)), ("q", Sum([(1, "i"), (1, "a")], high=2))])
        self.assertEqual(self.ask(least_rules, Puzzle(FULL, rules), {}), ["p", "q"])


class WidestClosedTest(CoresCase):
    def test_ordinary(self):
        puzzle = Puzzle([("x", [1, 2, 3]), ("y", [1, 2, 3])], [("a", Ring([("x", "y", -1)]))])
        self.assertEqual(self.ask(widest_closed, puzzle, {"x": [2], "y": [1]}), {"y": [1]})
        self.assertEqual(self.ask(widest_closed, puzzle, {"x": [2], "y": [2]}), {"x": [2, 3], "y": [1, 2]})
        self.assertEqual(self.ask(widest_closed, puzzle, {"x": [3]}), {"x": [3]})
        self.assertEqual(self.ask(widest_closed, puzzle, {"y": [1, 2], "x": [3]}), {"x": [2, 3], "y": [1, 2]})

    def test_whole_domains_and_empty_sides(self):
        puzzle = Puzzle([("x", [1, 2]), ("y", [1, 2])], [("a", Table(["x"], []))])
        self.assertEqual(self.ask(widest_closed, puzzle, {"x": [1, 2], "y": [1, 2]}), {})
        self.assertEqual(self.ask(widest_closed, puzzle, {}), {})
        free = puzzle.without_rule("a")
        self.assertEqual(self.ask(widest_closed, free, {"x": [], "y": [1]}), {"x": []})
        self.assertEqual(self.ask(widest_closed, free, {"x": [], "y": []}), {"y": []})
        empty = Puzzle([("x", []), ("y", [1, 2])], [])
        self.assertEqual(self.ask(widest_closed, empty, {"x": [], "y": [2]}), {})
        self.assertEqual(self.ask(widest_closed, empty, {}), {})

    def test_errors(self):
        self.check_errors(widest_closed)

    def test_nothing_is_shared(self):
        puzzle = Puzzle([("x", [1, 2]), ("y", [1, 2])], [("a", Unlike(["x", "y"]))])
        box = {"x": [1], "y": [1]}
        result = widest_closed(puzzle, box)
        self.assertEqual(result, box)
        result["x"].append(5)
        self.assertEqual(box, {"x": [1], "y": [1]})

    def test_random(self):
        source = seeded(87)
        closed = 0
        for _ in range(250):
            domains, rules = random_parts(source, least=source.choice([0, 1, 1, 1]))
            puzzle, box = Puzzle(domains, rules), random_box_of(source, domains)
            answers = slow_answers(domains, rules, box)
            if answers:
                self.fails(HoldsAnswer, {"answer": answers[0]}, widest_closed, puzzle, box)
            else:
                closed += 1
                self.assertEqual(self.ask(widest_closed, puzzle, box), slow_widest_closed(domains, rules, box))
        self.assertGreater(closed, 80)

    def test_full_size(self):
        names = [name for name, _ in FULL]
        rules = [(f"s{k}", Sum([(1, name) for name in names], high=16)) for k in range(16)]
        box = {name: [2] for name in names}
        self.assertEqual(self.ask(widest_closed, Puzzle(FULL, rules), box), {name: [2] for name in names[1:]})


if __name__ == "__main__":
    unittest.main()
