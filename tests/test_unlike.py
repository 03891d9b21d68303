import itertools
import unittest

from curbdesk.errors import EmptyRule, RepeatedName
from curbdesk.unlike import Unlike
from tests.support import RuleCase, random_box, seeded


class UnlikeMakingTest(RuleCase):
    def test_attributes(self):
        self.assertEqual(Unlike(["y", "x"]).names, ("y", "x"))
        self.assertIs(type(Unlike(["y", "x"]).names), tuple)

    def test_errors(self):
        self.fails(EmptyRule, {}, Unlike, [])
        self.fails(RepeatedName, {"name": "x"}, Unlike, ["x", "x"])
        self.fails(RepeatedName, {"name": "y"}, Unlike, ["x", "y", "y", "x"])

    def test_later_changes_have_no_effect(self):
        names = ["x", "y"]
        rule = Unlike(names)
        names.append("x")
        names[0] = "z"
        self.assertEqual(rule.names, ("x", "y"))
        self.assertIs(rule.allows({"x": 1, "y": 1}), False)


class UnlikeTest(RuleCase):
    words = ("crowd",)

    def test_allows(self):
        rule = Unlike(["x", "y", "z"])
        self.assertIs(self.ask(rule.allows, {"x": 1, "y": 2, "z": 3, "w": 1}), True)
        self.assertIs(self.ask(rule.allows, {"x": 1, "y": 2, "z": 1}), False)
        self.assertIs(Unlike(["x"]).allows({"x": 0}), True)

    def test_witness(self):
        rule = Unlike(["y", "x", "z"])
        box = {"x": [1, 2], "y": [1, 2, 3], "z": [1, 2], "w": []}
        self.assertEqual(self.ask(rule.witness, box), {"y": 3, "x": 1, "z": 2})
        self.assertIsNone(self.ask(rule.witness, {"x": [1, 2], "y": [1, 2], "z": [1, 2]}))
        self.assertIsNone(self.ask(rule.witness, {"x": [1, 2], "y": [], "z": [1, 2]}))

    def test_supported(self):
        rule = Unlike(["y", "x", "z"])
        box = {"x": [1, 2], "y": [1, 2, 3, 4], "z": [1, 2], "w": []}
        self.assertEqual(self.ask(rule.supported, box, "y"), [3, 4])
        self.assertEqual(self.ask(rule.supported, box, "x"), [1, 2])
        self.assertEqual(self.ask(rule.supported, {"x": [1], "y": [1], "z": [1, 2]}, "z"), [])
        self.assertEqual(self.ask(rule.supported, {"x": [1], "y": [2], "z": []}, "x"), [])

    def test_certificates(self):
        rule = Unlike(["y", "x", "z"])
        self.assertIsNone(self.ask(rule.certificate, {"x": [1, 2], "y": [1, 2, 3], "z": [1, 2]}))
        self.assertEqual(self.ask(rule.certificate, {"x": [], "y": [], "z": [1]}), ("empty", "y"))
        word, names = self.ask(rule.certificate, {"x": [4], "y": [1, 2, 3], "z": [4]})
        self.assertEqual((word, sorted(names)), ("crowd", ["x", "z"]))

    def test_crowd(self):
        rule = Unlike(["w", "x", "y", "z"])
        box = {"w": [1, 2], "x": [1, 2], "y": [1, 2], "z": [1, 2, 3, 4, 5], "v": [1], "u": []}
        for good in (["w", "x", "y"], ["y", "w", "x"]):
            self.assertIs(self.ask(rule.accepts, box, ("crowd", good)), True, good)
        for bad in (
            [], ["w"], ["w", "x"], ["w", "w", "x"], ["w", "x", "y", "y"], ["w", "x", "y", "z"], ["w", "x", "v"],
            ["w", "x", "y", "v"], ["w", "x", "y", "nobody"], ["u"], ["w"] * 600,
        ):
            self.assertIs(self.ask(rule.accepts, box, ("crowd", bad)), False, bad)

    def test_crowd_with_an_empty_side(self):
        rule = Unlike(["x", "y"])
        box = {"x": [], "y": [1, 2], "z": []}
        self.assertIs(self.ask(rule.accepts, box, ("crowd", ["x"])), True)
        self.assertIs(self.ask(rule.accepts, box, ("crowd", ["x", "y"])), False)
        self.assertIs(self.ask(rule.accepts, {"x": [], "y": [1]}, ("crowd", ["x", "y"])), True)
        self.assertIs(self.ask(rule.accepts, box, ("crowd", [])), False)
        self.assertIs(self.ask(rule.accepts, box, ("crowd", ["z"])), False)

    def test_random(self):
        source = seeded(51)
        bare = 0
        for _ in range(250):
            names = source.sample(["w", "x", "y", "z"], source.randint(1, 4))
            box = random_box(source, ["w", "x", "y", "z"], 4, least=source.choice([0, 1]))
            rule = Unlike(names)
            self.check_rule(rule, box, lambda values: len({values[name] for name in names}) == len(names))
            bare += rule.witness(box) is None
            for size in range(4):
                for crowd in itertools.product(["w", "x", "y"], repeat=size):
                    fine = bool(crowd) and len(set(crowd)) == size and set(crowd) <= set(names)
                    good = fine and len({value for name in crowd for value in box[name]}) < size
                    self.assertIs(rule.accepts(box, ("crowd", list(crowd))), good)
        self.assertTrue(40 < bare < 210, bare)

    def test_full_size(self):
        names = [f"n{k}" for k in range(16)]
        rule = Unlike(names)
        box = {name: list(range(16)) for name in names}
        self.assertEqual(self.ask(rule.witness, box), {name: k for k, name in enumerate(names)})
        box["n15"] = [0]
        self.assertEqual(self.ask(rule.witness, box), {name: (k + 1) % 16 for k, name in enumerate(names)})
        for name in names[:15]:
            self.assertEqual(self.ask(rule.supported, box, name), list(range(1, 16)))
        box["n14"] = [0]
        self.assertIs(rule.accepts(box, self.ask(rule.certificate, box)), True)
        box = {name: [10 ** 12 - 20 + k for k in range(15)] for name in names}
        self.assertEqual(sorted(self.ask(rule.certificate, box)[1]), sorted(names))
        self.assertEqual(self.ask(rule.supported, box, "n3"), [])


if __name__ == "__main__":
    unittest.main()
