import unittest

from curbdesk.bans import Ban
from curbdesk.counts import Counts
from curbdesk.errors import NotBare
from curbdesk.reasons import least_reason, widest_bare
from curbdesk.rings import Ring
from curbdesk.sums import Sum
from curbdesk.tables import Table
from curbdesk.unlike import Unlike
from tests.support import DeskCase, all_in, random_rule, random_side, seeded

NAMES = ["a", "b", "c", "d"]


def slow_bare(rule, box):
    return not any(rule.allows(values) for values in all_in(box, rule.names))


def slow_widest(rule, box, limits):
    """Widen the box value by value, word by word as point 29 says. The box is bare."""
    widest = {name: list(box[name]) for name in rule.names}
    for name in rule.names:
        for value in limits[name]:
            if value not in box[name]:
                wider = {**widest, name: sorted(widest[name] + [value])}
                if slow_bare(rule, wider):
                    widest = wider
    return widest


def random_limits(source, box):
    """Return a box whose sides contain those of the box."""
    return {name: sorted(set(side) | set(random_side(source, 4))) for name, side in box.items()}


class WidestBareTest(DeskCase):
    def test_ordinary(self):
        rule = Unlike(["x", "y", "z"])
        box = {"x": [1], "y": [1], "z": [2]}
        limits = {"x": [1, 2, 3], "y": [1, 2], "z": [1, 2, 3]}
        self.assertEqual(self.ask(widest_bare, rule, box, limits=limits), {"x": [1, 2], "y": [1, 2], "z": [1, 2]})
        rule = Ring([("x", "y", -2)])
        box, limits = {"x": [3], "y": [2, 4]}, {"x": [0, 3, 7], "y": [1, 2, 4, 8]}
        self.assertEqual(self.ask(widest_bare, rule, box, limits=limits), {"x": [3, 7], "y": [1, 2, 4]})

    def test_names_in_the_order_of_the_rule(self):
        # Only one of both names can become wider: the first one of the rule does.
        rows = [(1, 1), (2, 2)]
        box, limits = {"x": [1], "y": [2]}, {"x": [1, 2], "y": [1, 2]}
        self.assertEqual(self.ask(widest_bare, Table(["x", "y"], rows), box, limits=limits), {"x": [1], "y": [2]})
        limits = {"x": [1, 3], "y": [2, 3]}
        rows = [(3, 3)]
        self.assertEqual(widest_bare(Table(["x", "y"], rows), box, limits=limits), {"x": [1, 3], "y": [2]})
        self.assertEqual(widest_bare(Table(["y", "x"], rows), box, limits=limits), {"x": [1], "y": [2, 3]})

    def test_limits_that_equal_the_box(self):
        rule = Sum([(1, "x"), (1, "y")], low=10)
        box = {"x": [1, 2], "y": [3]}
        self.assertEqual(self.ask(widest_bare, rule, box, limits=dict(box)), box)
        self.assertEqual(self.ask(widest_bare, rule, box, limits=box), box)

    def test_empty_sides(self):
        rule = Unlike(["x", "y"])
        limits = {"x": [1, 2], "y": [1, 2]}
        self.assertEqual(self.ask(widest_bare, rule, {"x": [], "y": []}, limits=limits), {"x": [1, 2], "y": []})
        self.assertEqual(self.ask(widest_bare, rule, {"x": [], "y": [1]}, limits=limits), {"x": [1], "y": [1]})
        self.assertEqual(self.ask(widest_bare, rule, {"x": [1], "y": []}, limits={"x": [1], "y": []}),
                         {"x": [1], "y": []})

    def test_other_names_do_not_matter(self):
        rule = Table(["x"], [(1,)])
        box, limits = {"w": [], "x": [2], "z": [3]}, {"x": [1, 2, 4], "z": [3, 4], "v": [1]}
        self.assertEqual(self.ask(widest_bare, rule, box, limits=limits), {"x": [2, 4]})

    def test_not_bare(self):
        rule = Unlike(["y", "x"])
        box = {"x": [1, 2], "y": [1, 2], "z": []}
        found = self.fails(NotBare, {"found": {"y": 1, "x": 2}}, widest_bare, rule, box, limits=box).found
        found["x"] = 9
        self.assertEqual(rule.witness(box), {"x": 2, "y": 1})
        box = {"x": [2], "y": [1]}
        self.fails(NotBare, {"found": {"y": 1, "x": 2}}, widest_bare, rule, box, limits=box)

    def test_limits_by_keyword_alone(self):
        with self.assertRaises(TypeError):
            widest_bare(Unlike(["x"]), {"x": []}, {"x": [1]})
        with self.assertRaises(TypeError):
            least_reason(Unlike(["x"]), {"x": []}, "x", 1, {"x": [1]})

    def test_nothing_is_shared(self):
        rule = Table(["x", "y"], [(1, 1)])
        box, limits = {"x": [2], "y": [1]}, {"x": [2, 3], "y": [1]}
        result = widest_bare(rule, box, limits=limits)
        result["x"].append(9)
        result["y"].append(9)
        self.assertEqual((box, limits), ({"x": [2], "y": [1]}, {"x": [2, 3], "y": [1]}))

    def test_random(self):
        source = seeded(81)
        bare = 0
        for _ in range(900):
            rule = random_rule(source, NAMES)
            box = {name: random_side(source, 3) for name in NAMES}
            limits = random_limits(source, box)
            if slow_bare(rule, box):
                bare += 1
                self.assertEqual(self.ask(widest_bare, rule, box, limits=limits), slow_widest(rule, box, limits))
            else:
                self.fails(NotBare, {"found": rule.witness(box)}, widest_bare, rule, box, limits=limits)
        self.assertGreater(bare, 200)

    def test_full_size(self):
        many = [f"n{number}" for number in range(16)]
        few = many[:8]
        limits = {name: list(range(16)) for name in many}
        rules = [
            (Unlike(many), {name: list(range(14)) for name in many}),
            (Counts(many, [(value, 1, 1) for value in range(15)] + [(15, 2, 9)]), {name: [15] for name in many}),
            (Ring([(one, other, -1) for one, other in zip(many, many[1:])] * 4), {name: [3, 4] for name in many}),
            (Sum([(10 ** 5 + 7 ** place, name) for place, name in enumerate(few[:3])], high=0),
             {name: [1, 2] for name in few}),
            (Table(few, [[row // 8] * 7 + [row] for row in range(64)]), {name: [1, 2] for name in few}),
            (Ban(few, [[0] * 7 + [row] for row in range(16)]), {**{name: [0] for name in few}, few[7]: [1, 2]}),
        ]
        for rule, box in rules:
            wide = {name: limits[name] for name in rule.names}
            result = self.ask(widest_bare, rule, box, limits=wide)
            self.assertIsNone(rule.witness(result))
            for name in rule.names:
                for value in wide[name]:
                    if value not in result[name]:
                        self.assertIsNotNone(rule.witness({**result, name: [value]}))


class LeastReasonTest(DeskCase):
    def test_ordinary(self):
        rule = Ring([("x", "y", -1)])
        box, limits = {"x": [2, 3], "y": [1, 2, 3]}, {"x": [1, 2, 3], "y": [1, 2, 3]}
        self.assertEqual(self.ask(least_reason, rule, box, "y", 2, limits=limits), {"x": [2, 3], "y": [2]})
        self.assertEqual(self.ask(least_reason, rule, box, "y", 1, limits=limits), {"x": [1, 2, 3], "y": [1]})
        self.fails(NotBare, {"found": {"x": 2, "y": 3}}, least_reason, rule, box, "y", 3, limits=limits)

    def test_value_that_the_side_lacks(self):
        rule = Unlike(["x", "y"])
        box, limits = {"x": [1, 2], "y": [3]}, {"x": [1, 2], "y": [3]}
        self.assertEqual(self.ask(least_reason, rule, box, "x", 3, limits=limits), {"x": [3], "y": [3]})
        self.fails(NotBare, {"found": {"x": 7, "y": 3}}, least_reason, rule, box, "x", 7, limits=limits)
        empty = {"x": [], "y": [3]}
        self.assertEqual(self.ask(least_reason, rule, empty, "x", 3, limits=empty), {"x": [3], "y": [3]})

    def test_other_empty_side(self):
        rule = Unlike(["x", "y", "z"])
        box, limits = {"x": [1], "y": [], "z": [5]}, {"x": [1, 2], "y": [1, 2, 3], "z": [5]}
        self.assertEqual(self.ask(least_reason, rule, box, "x", 2, limits=limits), {"x": [2], "y": [2], "z": [5]})

    def test_random(self):
        source = seeded(82)
        bare = 0
        for _ in range(900):
            rule = random_rule(source, NAMES)
            box = {name: random_side(source, 3) for name in NAMES}
            limits = random_limits(source, box)
            name, value = source.choice(rule.names), source.randint(-1, 4)
            asked, within = {**box, name: [value]}, {**limits, name: [value]}
            if slow_bare(rule, asked):
                bare += 1
                expected = slow_widest(rule, asked, within)
                self.assertEqual(self.ask(least_reason, rule, box, name, value, limits=limits), expected)
            else:
                found = {"found": rule.witness(asked)}
                self.fails(NotBare, found, least_reason, rule, box, name, value, limits=limits)
        self.assertGreater(bare, 200)


if __name__ == "__main__":
    unittest.main()
