import itertools
import unittest

from curbdesk.counts import Counts
from curbdesk.errors import BadBounds, EmptyRule, RepeatedName, RepeatedValue
from tests.support import RuleCase, random_box, seeded


class CountsMakingTest(RuleCase):
    def test_attributes(self):
        rule = Counts(["y", "x"], [(3, 0, 2), (1, 1, 1)])
        self.assertEqual(rule.names, ("y", "x"))
        self.assertEqual(rule.limits, ((3, 0, 2), (1, 1, 1)))
        self.assertEqual([type(thing) for thing in (rule.names, rule.limits, rule.limits[0])], [tuple] * 3)
        self.assertEqual(Counts(["x"], []).limits, ())

    def test_errors(self):
        self.fails(EmptyRule, {}, Counts, [], [])
        self.fails(EmptyRule, {}, Counts, [], [(1, 3, 2)])
        self.fails(RepeatedName, {"name": "x"}, Counts, ["x", "x"], [(1, 3, 2)])
        self.fails(RepeatedName, {"name": "y"}, Counts, ["x", "y", "y", "x"], [])
        self.fails(BadBounds, {"low": 3, "high": 2}, Counts, ["x"], [(1, 3, 2)])
        self.fails(BadBounds, {"low": -1, "high": 2}, Counts, ["x"], [(1, 0, 0), (2, -1, 2)])
        self.fails(BadBounds, {"low": -2, "high": -1}, Counts, ["x"], [(1, -2, -1)])
        self.fails(BadBounds, {"low": 0, "high": -1}, Counts, ["x"], [(1, 0, -1)])
        self.fails(RepeatedValue, {"value": 1}, Counts, ["x"], [(1, 0, 0), (2, 0, 0), (1, 0, 0), (2, 0, 0)])
        self.fails(BadBounds, {"low": 2, "high": 1}, Counts, ["x"], [(1, 0, 0), (1, 2, 1)])
        self.fails(RepeatedValue, {"value": 1}, Counts, ["x"], [(1, 0, 0), (1, 0, 1), (2, 2, 1)])

    def test_later_changes_have_no_effect(self):
        names, limits = ["x", "y"], [(1, 0, 1)]
        rule = Counts(names, limits)
        names.append("z")
        limits[0] = (1, 0, 2)
        limits.append((5, 1, 1))
        self.assertEqual((rule.names, rule.limits), (("x", "y"), ((1, 0, 1),)))
        self.assertIs(rule.allows({"x": 1, "y": 1}), False)


class CountsTest(RuleCase):
    words = ("crowd", "want")

    def expected_word(self, rule, box):
        for size in range(1, len(rule.names) + 1):
            for crowd in itertools.combinations(rule.names, size):
                if self.is_crowd(rule, box, crowd):
                    return "crowd"
        return "want"

    def is_crowd(self, rule, box, crowd):
        highs = {value: high for value, _, high in rule.limits}
        if not crowd or len(set(crowd)) < len(crowd) or not set(crowd) <= set(rule.names):
            return False
        union = {value for name in crowd for value in box[name]}
        return union <= set(highs) and sum(highs[value] for value in union) < len(crowd)

    def is_want(self, rule, box, wanted):
        lows = {value: low for value, low, _ in rule.limits}
        if len(set(wanted)) < len(wanted) or not set(wanted) <= set(lows):
            return False
        able = [name for name in rule.names if set(box[name]) & set(wanted)]
        return sum(lows[value] for value in wanted) > len(able)

    def test_allows(self):
        rule = Counts(["x", "y", "z"], [(1, 1, 2), (5, 0, 0)])
        self.assertIs(self.ask(rule.allows, {"x": 1, "y": 2, "z": 3, "w": 1}), True)
        self.assertIs(self.ask(rule.allows, {"x": 1, "y": 1, "z": 3}), True)
        self.assertIs(self.ask(rule.allows, {"x": 1, "y": 1, "z": 1}), False)
        self.assertIs(self.ask(rule.allows, {"x": 4, "y": 2, "z": 3, "w": 1}), False)
        self.assertIs(self.ask(rule.allows, {"x": 1, "y": 5, "z": 3}), False)
        self.assertIs(Counts(["x"], []).allows({"x": 7}), True)
        self.assertIs(Counts(["x"], [(1, 2, 3)]).allows({"x": 1}), False)

    def test_witness(self):
        rule = Counts(["y", "x", "z"], [(1, 0, 1), (3, 1, 3)])
        box = {"x": [1, 2], "y": [1, 2, 3], "z": [1, 2], "w": []}
        self.assertEqual(self.ask(rule.witness, box), {"y": 3, "x": 1, "z": 2})
        self.assertIsNone(self.ask(rule.witness, {"x": [1], "y": [1, 3], "z": [1, 2]} | {"y": [2]}))
        self.assertIsNone(self.ask(rule.witness, {"x": [3], "y": [], "z": [3]}))
        self.assertEqual(self.ask(Counts(["x"], []).witness, {"x": [4, 5]}), {"x": 4})

    def test_supported(self):
        rule = Counts(["y", "x", "z"], [(1, 0, 1), (3, 1, 3)])
        box = {"x": [1, 2], "y": [1, 2, 3], "z": [1], "w": []}
        self.assertEqual(self.ask(rule.supported, box, "y"), [3])
        self.assertEqual(self.ask(rule.supported, box, "x"), [2])
        self.assertEqual(self.ask(rule.supported, box, "z"), [1])
        self.assertEqual(self.ask(rule.supported, {"x": [1], "y": [3], "z": []}, "x"), [])
        self.assertEqual(self.ask(rule.supported, {"x": [2], "y": [2], "z": [2]}, "x"), [])

    def test_certificates(self):
        rule = Counts(["y", "x", "z"], [(1, 0, 1), (3, 1, 3)])
        self.assertIsNone(self.ask(rule.certificate, {"x": [1, 2], "y": [1, 2, 3], "z": [1, 2]}))
        self.assertEqual(self.ask(rule.certificate, {"x": [], "y": [], "z": [1]}), ("empty", "y"))
        word, names = self.ask(rule.certificate, {"x": [1], "y": [1, 2, 3], "z": [1]})
        self.assertEqual((word, sorted(names)), ("crowd", ["x", "z"]))
        self.assertEqual(self.ask(rule.certificate, {"x": [2], "y": [1, 2], "z": [1]}), ("want", [3]))
        both = {"x": [1], "y": [1], "z": [2]}
        self.assertEqual(self.ask(rule.certificate, both)[0], "crowd")
        self.assertIs(rule.accepts(both, ("want", [3])), True)

    def test_crowd(self):
        rule = Counts(["w", "x", "y", "z"], [(1, 0, 1), (2, 0, 1), (4, 0, 9)])
        box = {"w": [1, 2], "x": [1, 2], "y": [1, 2], "z": [3], "v": [1], "u": []}
        for good in (["w", "x", "y"], ["y", "w", "x"]):
            self.assertIs(self.ask(rule.accepts, box, ("crowd", good)), True, good)
        for bad in (
            [], ["w"], ["w", "x"], ["w", "w", "x"], ["w", "x", "y", "y"], ["w", "x", "y", "z"], ["w", "x", "v"],
            ["w", "x", "y", "v"], ["w", "x", "y", "nobody"], ["u"], ["w"] * 600,
        ):
            self.assertIs(self.ask(rule.accepts, box, ("crowd", bad)), False, bad)
        self.assertIs(rule.accepts({**box, "w": [1, 4]}, ("crowd", ["w", "x", "y"])), False)
        self.assertIs(Counts(["x"], [(1, 0, 0)]).accepts({"x": [1]}, ("crowd", ["x"])), True)
        self.assertIs(Counts(["x"], []).accepts({"x": [1]}, ("crowd", ["x"])), False)

    def test_want(self):
        rule = Counts(["w", "x", "y"], [(1, 2, 3), (2, 1, 1), (3, 0, 1), (5, 2, 2)])
        box = {"w": [1], "x": [2, 3], "y": [3, 5], "v": [1, 5]}
        for good in ([1], [1, 2], [2, 1], [5], [1, 5], [1, 2, 5], [1, 2, 5, 3]):
            self.assertIs(self.ask(rule.accepts, box, ("want", good)), True, good)
        for bad in ([], [2], [3], [2, 3], [1, 1], [1, 2, 1], [1, 4], [1, 0], [4], [1] * 600, [10 ** 30], [-1, 1]):
            self.assertIs(self.ask(rule.accepts, box, ("want", bad)), False, bad)
        self.assertIs(Counts(["x"], []).accepts({"x": [1]}, ("want", [1])), False)

    def test_empty_sides(self):
        rule = Counts(["x", "y"], [(1, 1, 1), (2, 0, 0)])
        box = {"x": [], "y": [3], "z": []}
        self.assertIs(self.ask(rule.accepts, box, ("crowd", ["x"])), True)
        self.assertIs(self.ask(rule.accepts, box, ("crowd", ["x", "y"])), False)
        self.assertIs(self.ask(rule.accepts, {"x": [], "y": [1, 2]}, ("crowd", ["x", "y"])), True)
        self.assertIs(self.ask(rule.accepts, box, ("crowd", [])), False)
        self.assertIs(self.ask(rule.accepts, box, ("crowd", ["z"])), False)
        self.assertIs(self.ask(rule.accepts, box, ("want", [1])), True)
        self.assertIs(self.ask(rule.accepts, {"x": [], "y": [1]}, ("want", [1])), False)

    def test_random(self):
        source = seeded(52)
        words = []
        for _ in range(300):
            names = source.sample(["w", "x", "y", "z"], source.randint(1, 4))
            limits = self.random_limits(source)
            box = random_box(source, ["w", "x", "y", "z"], 3, least=source.choice([0, 1, 1]))
            rule = Counts(names, limits)
            self.check_rule(rule, box, lambda values: self.is_allowed(names, limits, values))
            words.append((rule.certificate(box) or ("none", None))[0])
            for size in range(4):
                for crowd in itertools.product(["w", "x", "y"], repeat=size):
                    good = self.is_crowd(rule, box, crowd)
                    self.assertIs(rule.accepts(box, ("crowd", list(crowd))), good)
                for wanted in itertools.product([0, 1, 2], repeat=size):
                    good = self.is_want(rule, box, wanted)
                    self.assertIs(rule.accepts(box, ("want", list(wanted))), good)
        for word in ("none", "empty", "crowd", "want"):
            self.assertGreater(words.count(word), 20, word)

    def random_limits(self, source):
        limits = []
        for value in source.sample(range(-1, 3), source.randint(0, 4)):
            low = source.choice([0, 0, 0, 1, 2])
            limits.append((value, low, source.randint(low, 3)))
        return limits

    def is_allowed(self, names, limits, values):
        row = [values[name] for name in names]
        return all(low <= sum(1 for value in row if value == limited) <= high for limited, low, high in limits)

    def test_full_size(self):
        names = [f"n{k}" for k in range(16)]
        box = {name: list(range(16)) for name in names}
        ones = Counts(names, [(value, 1, 1) for value in range(16)])
        self.assertEqual(self.ask(ones.witness, box), {name: k for k, name in enumerate(names)})
        box["n15"] = [0]
        self.assertEqual(self.ask(ones.witness, box), {name: (k + 1) % 16 for k, name in enumerate(names)})
        for name in names[:15]:
            self.assertEqual(self.ask(ones.supported, box, name), list(range(1, 16)))
        box["n14"] = [0]
        self.assertEqual(sorted(self.ask(ones.certificate, box)[1]), ["n14", "n15"])
        wide = Counts(names, [(value, 0, 10 ** 12) for value in range(15)] + [(15, 3, 10 ** 12)])
        self.assertEqual(self.ask(wide.witness, box), {name: 15 if k in (11, 12, 13) else 0
                                                       for k, name in enumerate(names)})
        greedy = Counts(names, [(15, 10 ** 12, 10 ** 12)])
        self.assertEqual(self.ask(greedy.certificate, box), ("want", [15]))
        self.assertEqual(self.ask(greedy.supported, box, "n0"), [])


if __name__ == "__main__":
    unittest.main()
