import unittest

from curbdesk.errors import BadBounds, EmptyRule, RepeatedName
from curbdesk.layers import sum_layers
from curbdesk.sums import Sum
from tests.support import RuleCase, random_box, seeded


class SumMakingTest(RuleCase):
    def test_attributes(self):
        rule = Sum([(2, "y"), (0, "x")], low=-1, high=5)
        self.assertEqual(rule.names, ("y", "x"))
        self.assertEqual(rule.terms, ((2, "y"), (0, "x")))
        self.assertEqual((rule.low, rule.high), (-1, 5))
        self.assertEqual([type(thing) for thing in (rule.names, rule.terms, rule.terms[0])], [tuple] * 3)

    def test_bounds(self):
        rule = Sum([(1, "x")])
        self.assertIsNone(rule.low)
        self.assertIsNone(rule.high)
        self.assertEqual((Sum([(1, "x")], low=3).low, Sum([(1, "x")], high=0).high), (3, 0))
        self.assertEqual(Sum([(1, "x")], low=4, high=4).low, 4)

    def test_bounds_by_keyword_only(self):
        with self.assertRaises(TypeError):
            Sum([(1, "x")], 1, 2)

    def test_errors(self):
        self.fails(EmptyRule, {}, Sum, [])
        self.fails(EmptyRule, {}, Sum, [], low=3, high=2)
        self.fails(RepeatedName, {"name": "x"}, Sum, [(1, "x"), (2, "x")], low=3, high=2)
        self.fails(RepeatedName, {"name": "y"}, Sum, [(1, "x"), (2, "y"), (0, "y"), (1, "x")])
        self.fails(BadBounds, {"low": 3, "high": 2}, Sum, [(1, "x")], low=3, high=2)
        self.fails(BadBounds, {"low": 0, "high": -1}, Sum, [(1, "x")], low=0, high=-1)

    def test_later_changes_have_no_effect(self):
        terms = [(1, "x"), (1, "y")]
        rule = Sum(terms, low=3)
        terms.append((5, "z"))
        terms[0] = (9, "x")
        self.assertEqual(rule.terms, ((1, "x"), (1, "y")))
        self.assertEqual(rule.names, ("x", "y"))
        self.assertEqual(rule.witness({"x": [1, 2], "y": [1]}), {"x": 2, "y": 1})


class SumTest(RuleCase):
    words = ("layers",)

    def test_allows(self):
        rule = Sum([(2, "x"), (-1, "y")], low=0, high=3)
        self.assertIs(self.ask(rule.allows, {"x": 1, "y": 2}), True)
        self.assertIs(self.ask(rule.allows, {"x": 1, "y": -1, "z": 9}), True)
        self.assertIs(self.ask(rule.allows, {"x": 1, "y": -2}), False)
        self.assertIs(self.ask(rule.allows, {"x": 1, "y": 3}), False)
        self.assertIs(Sum([(1, "x")], low=5).allows({"x": 10 ** 12}), True)
        self.assertIs(Sum([(1, "x")], low=5).allows({"x": 4}), False)
        self.assertIs(Sum([(1, "x")], high=5).allows({"x": -10 ** 12}), True)
        self.assertIs(Sum([(1, "x")], high=5).allows({"x": 6}), False)
        self.assertIs(Sum([(1, "x")]).allows({"x": 6}), True)
        self.assertIs(Sum([(0, "x")], low=0, high=0).allows({"x": 6}), True)

    def test_witness(self):
        rule = Sum([(1, "y"), (1, "x")], low=6, high=7)
        box = {"x": [1, 3, 5], "y": [0, 2, 4], "z": []}
        self.assertEqual(self.ask(rule.witness, box), {"y": 2, "x": 5})
        self.assertIsNone(self.ask(rule.witness, {"x": [1, 2], "y": [1, 2]}))
        self.assertIsNone(self.ask(rule.witness, {"x": [], "y": [6]}))
        self.assertEqual(self.ask(Sum([(0, "x")]).witness, {"x": [3, 4]}), {"x": 3})

    def test_supported(self):
        rule = Sum([(1, "x"), (1, "y")], low=5, high=5)
        box = {"x": [0, 1, 2, 3], "y": [2, 3, 9]}
        self.assertEqual(self.ask(rule.supported, box, "x"), [2, 3])
        self.assertEqual(self.ask(rule.supported, box, "y"), [2, 3])
        self.assertEqual(self.ask(rule.supported, {"x": [0, 1], "y": []}, "x"), [])
        self.assertEqual(self.ask(rule.supported, {"x": [0, 1], "y": [1]}, "y"), [])
        self.assertEqual(self.ask(Sum([(0, "x")]).supported, {"x": [3, 4]}, "x"), [3, 4])

    def test_certificates(self):
        rule = Sum([(2, "x"), (1, "y")], low=3, high=3)
        self.assertIsNone(self.ask(rule.certificate, {"x": [0, 1], "y": [1]}))
        certificate = self.ask(rule.certificate, {"x": [0, 1], "y": [0, 4]})
        self.assertEqual(certificate[0], "layers")
        self.assertIs(rule.accepts({"x": [0, 1], "y": [0, 4]}, certificate), True)
        self.assertEqual(self.ask(rule.certificate, {"x": [], "y": []}), ("empty", "x"))
        self.assertEqual(self.ask(rule.certificate, {"x": [1], "y": [], "z": []}), ("empty", "y"))

    def test_layers(self):
        rule = Sum([(2, "x"), (1, "y")], low=3, high=3)
        box = {"x": [0, 1], "y": [0, 4], "z": []}
        for good in (
            [[0], [0, 2], [0, 2, 4, 6]],
            [[0], [0, 2], [-7, 0, 2, 4, 6, 99]],
            [[-4, 0], [-4, -2, 0, 2], [-4, -2, 0, 2, 4, 6]],
            [[0], [-9, 0, 2], [-9, -5, 0, 2, 4, 6]],
        ):
            self.assertIs(self.ask(rule.accepts, box, ("layers", good)), True, good)
        for bad in (
            [[0], [0, 2], [0, 2, 3, 4, 6]],
            [[0], [0, 2], [0, 2, 4]],
            [[0], [2], [2, 6]],
            [[], [0, 2], [0, 2, 4, 6]],
            [[1], [1, 3], [1, 5, 7]],
            [[-4, 0], [0, 2], [0, 2, 4, 6]],
            [[0], [0, 1, 2], [0, 2, 4, 6]],
            [[0], [0, 2]],
            [[0]],
            [[]],
            [[0], [0, 2], [0, 2, 4, 6], [0, 2, 4, 6]],
            [[0], [0, 2], [0, 2, 4, 6], []],
        ):
            self.assertIs(self.ask(rule.accepts, box, ("layers", bad)), False, bad)

    def test_layers_with_an_empty_side(self):
        rule = Sum([(1, "x"), (1, "y")], low=0)
        box = {"x": [3], "y": []}
        self.assertIs(self.ask(rule.accepts, box, ("layers", [[0], [3], []])), True)
        self.assertIs(self.ask(rule.accepts, box, ("layers", [[0], [3], [-1]])), True)
        self.assertIs(self.ask(rule.accepts, box, ("layers", [[0], [3], [0]])), False)
        self.assertIs(self.ask(rule.accepts, box, ("layers", [[0], [], []])), False)
        self.assertIs(self.ask(rule.accepts, box, ("layers", [[0], [3]])), False)
        self.assertIs(self.ask(rule.accepts, {"x": [], "y": [3]}, ("layers", [[0], [], []])), True)
        self.assertIs(self.ask(rule.accepts, {"x": [], "y": [3]}, ("layers", [[], [], []])), False)

    def test_bounds_of_the_last_layer(self):
        box = {"x": [1, 5]}
        layers = ("layers", [[0], [1, 5]])
        self.assertIs(Sum([(1, "x")], low=2, high=4).accepts(box, layers), True)
        self.assertIs(Sum([(1, "x")], low=1, high=4).accepts(box, layers), False)
        self.assertIs(Sum([(1, "x")], low=2, high=5).accepts(box, layers), False)
        self.assertIs(Sum([(1, "x")], low=6).accepts(box, layers), True)
        self.assertIs(Sum([(1, "x")], low=5).accepts(box, layers), False)
        self.assertIs(Sum([(1, "x")], high=0).accepts(box, layers), True)
        self.assertIs(Sum([(1, "x")], high=1).accepts(box, layers), False)
        self.assertIs(Sum([(1, "x")]).accepts(box, layers), False)

    def test_random(self):
        source = seeded(21)
        bare = 0
        for _ in range(250):
            names = source.sample(["x", "y", "z"], source.randint(1, 3))
            terms = [(source.randint(-3, 3), name) for name in names]
            low, high = source.choice([(None, -2), (3, None), (1, 2), (None, None), (0, 0), (-4, -3)])
            box = random_box(source, ["x", "y", "z"], 3)
            rule = Sum(terms, low=low, high=high)
            self.check_rule(rule, box, self.plain_sum(terms, low, high))
            bare += rule.witness(box) is None
            self.check_layers(source, rule, box)
        self.assertTrue(50 < bare < 200, bare)

    def plain_sum(self, terms, low, high):
        def is_allowed(values):
            return self.is_within(sum(coefficient * values[name] for coefficient, name in terms), low, high)

        return is_allowed

    def is_within(self, total, low, high):
        return (low is None or total >= low) and (high is None or total <= high)

    def check_layers(self, source, rule, box):
        """Layers with further numbers, or with one number less, against what they have to have."""
        needed = sum_layers(rule.terms, box)
        layers = [sorted(set(layer) | {source.randint(-6, 6)}) for layer in needed]
        if source.random() < 0.5:
            layers = needed
        if source.random() < 0.2:
            layer = source.choice(layers)
            layer.remove(source.choice(layer)) if layer else None
        closed = 0 in layers[0] and all(
            n + coefficient * value in after
            for (coefficient, name), before, after in zip(rule.terms, layers, layers[1:])
            for n in before
            for value in box[name]
        )
        within = any(self.is_within(total, rule.low, rule.high) for total in layers[-1])
        self.assertIs(self.ask(rule.accepts, box, ("layers", layers)), closed and not within)

    def test_full_size(self):
        terms = [(1 + place, f"n{place}") for place in range(12)]
        box = {f"n{place}": [0, 1] for place in range(12)}
        rule = Sum(terms, low=77)
        self.assertEqual(self.ask(rule.witness, box)["n0"], 0)
        self.assertEqual(self.ask(rule.supported, box, "n0"), [0, 1])
        self.assertEqual(self.ask(rule.supported, box, "n11"), [1])
        terms = [(16 ** place, f"n{place}") for place in range(3)]
        box = {f"n{place}": list(range(16)) for place in range(3)}
        rule = Sum([(2 * coefficient, name) for coefficient, name in terms], low=4095, high=4095)
        self.assertIsNone(self.ask(rule.witness, box))
        certificate = self.ask(rule.certificate, box)
        self.assertIs(rule.accepts(box, certificate), True)
        self.assertEqual(self.ask(Sum(terms, low=4095).supported, box, "n1"), [15])

    def test_certificate_of_full_length(self):
        rule = Sum([(1, "x")], low=-1, high=-1)
        box = {"x": list(range(20))}
        self.assertIs(rule.accepts(box, ("layers", [[0], list(range(600))])), True)
        self.assertIs(rule.accepts(box, ("layers", [list(range(600)), list(range(600))])), False)
        self.assertIs(rule.accepts(box, ("layers", [[0] for _ in range(600)])), False)


if __name__ == "__main__":
    unittest.main()
