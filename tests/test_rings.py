import itertools
import unittest

from curbdesk.errors import EmptyRule
from curbdesk.rings import Ring
from tests.support import RuleCase, all_in, break_of, meets, random_box, random_edges, seeded


class RingMakingTest(RuleCase):
    def test_attributes(self):
        ring = Ring([("y", "x", 1), ("x", "z", -2), ("y", "y", 0)])
        self.assertEqual(ring.names, ("y", "x", "z"))
        self.assertEqual(ring.edges, (("y", "x", 1), ("x", "z", -2), ("y", "y", 0)))
        self.assertEqual([type(thing) for thing in (ring.names, ring.edges, ring.edges[0])], [tuple] * 3)
        self.assertEqual(Ring([("b", "b", 0), ("c", "a", 0)]).names, ("b", "c", "a"))

    def test_errors(self):
        self.fails(EmptyRule, {}, Ring, [])

    def test_later_changes_have_no_effect(self):
        edges = [("x", "y", 0)]
        ring = Ring(edges)
        edges[0] = ("x", "y", -5)
        edges.append(("z", "x", 0))
        self.assertEqual(ring.edges, (("x", "y", 0),))
        self.assertEqual(ring.names, ("x", "y"))
        self.assertIs(ring.allows({"x": 1, "y": 1}), True)


class RingTest(RuleCase):
    words = ("climb",)

    def test_allows(self):
        ring = Ring([("x", "y", -1), ("x", "y", 3), ("y", "z", 0)])
        self.assertIs(self.ask(ring.allows, {"x": 0, "y": 1, "z": 1}), True)
        self.assertIs(self.ask(ring.allows, {"x": 0, "y": 0, "z": 1, "w": 5}), False)
        self.assertIs(self.ask(ring.allows, {"x": 0, "y": 1, "z": 0}), False)
        self.assertIs(Ring([("x", "x", 0)]).allows({"x": 4}), True)
        self.assertIs(Ring([("x", "x", -1)]).allows({"x": 4}), False)

    def test_example(self):
        ring = Ring([("a", "b", -2), ("b", "c", 0)])
        box = {"a": [1, 4], "b": [2, 5, 9], "c": [3, 5, 6]}
        self.assertEqual(self.ask(ring.witness, box), {"a": 1, "b": 5, "c": 5})
        self.assertEqual(self.ask(ring.highest, box), {"a": 1, "b": 5, "c": 6})

    def test_highest(self):
        ring = Ring([("a", "b", 0), ("c", "c", 0)])
        self.assertEqual(self.ask(ring.highest, {"a": [1, 2, 9], "b": [0, 3], "c": [-4, 7], "d": []}),
                         {"a": 2, "b": 3, "c": 7})
        self.assertIsNone(self.ask(ring.highest, {"a": [2, 9], "b": [0, 1], "c": [1]}))
        self.assertIsNone(self.ask(ring.highest, {"a": [1], "b": [1], "c": []}))
        self.assertIsNone(self.ask(ring.witness, {"a": [1], "b": [1], "c": []}))

    def test_supported(self):
        ring = Ring([("a", "b", -1), ("b", "a", 2)])
        box = {"a": [0, 2, 4, 5], "b": [1, 4, 8], "c": []}
        self.assertEqual(self.ask(ring.supported, box, "a"), [0, 2])
        self.assertEqual(self.ask(ring.supported, box, "b"), [1, 4])
        self.assertEqual(self.ask(ring.supported, {"a": [], "b": [1]}, "b"), [])
        self.assertEqual(self.ask(ring.supported, {"a": [5], "b": [1]}, "b"), [])

    def test_certificates(self):
        ring = Ring([("b", "a", -1), ("a", "b", 0)])
        self.assertIsNone(self.ask(Ring([("b", "a", -1)]).certificate, {"a": [1, 2], "b": [1]}))
        self.assertEqual(self.ask(ring.certificate, {"a": [], "b": []}), ("empty", "b"))
        self.assertEqual(self.ask(ring.certificate, {"a": [], "b": [1], "c": []}), ("empty", "a"))
        self.assertEqual(self.ask(ring.certificate, {"a": [1, 2, 3], "b": [1, 2]})[0], "climb")

    def test_climb(self):
        ring = Ring([("a", "b", -1), ("b", "c", -1), ("c", "d", 9)])
        box = {"a": [1], "b": [1, 2, 5], "c": [1, 2], "d": [1], "e": []}
        for good in ([0, 1], [2, 0, 1], [0, 0, 0, 1], [1, 0, 1], [0, 2, 2, 1], [2] * 598 + [0, 1]):
            self.assertIs(self.ask(ring.accepts, box, ("climb", good)), True, good)
        for bad in (
            [], [0], [1], [1, 0], [0, 1, 1], [0, 1, 0], [0, 1, 2], [0, 2], [2, 2], [-1, 0, 1], [0, -2, 1], [0, 1, -1],
            [0, 1, 3], [3, 0, 1], [0, 3, 1], [-3, -2], [10 ** 30, 0, 1], [0, 1, 10 ** 30], [2] * 600,
        ):
            self.assertIs(self.ask(ring.accepts, box, ("climb", bad)), False, bad)

    def test_climb_for_a_box_that_is_not_bare(self):
        ring = Ring([("a", "b", -1), ("b", "a", 3)])
        for size in range(5):
            for steps in itertools.product(range(-1, 3), repeat=size):
                self.assertIs(ring.accepts({"a": [1, 2], "b": [1, 2]}, ("climb", list(steps))), False)

    def test_climb_with_an_empty_side(self):
        ring = Ring([("a", "b", -1), ("c", "a", 0)])
        box = {"a": [1], "b": [1], "c": [1]}
        self.assertIs(ring.accepts(box, ("climb", [0])), True)
        for name in ("a", "b", "c"):
            for steps in ([], [0], [1], [0, 1], [1, 0]):
                self.assertIs(self.ask(ring.accepts, {**box, name: []}, ("climb", steps)), False)

    def test_random(self):
        source = seeded(32)
        bare = 0
        for _ in range(250):
            edges = random_edges(source, ["x", "y", "z"], 5)
            box = random_box(source, ["x", "y", "z"], 4)
            ring = Ring(edges)
            self.check_rule(ring, box, lambda values: meets(edges, values))
            allowed = [values for values in all_in(box, ring.names) if meets(edges, values)]
            highest = {name: max(values[name] for values in allowed) for name in ring.names} if allowed else None
            self.assertEqual(self.ask(ring.highest, box), highest)
            if all(box[name] for name in ring.names):
                bare += not allowed
                self.check_climbs(source, ring, box)
        self.assertTrue(30 < bare < 220, bare)

    def check_climbs(self, source, ring, box):
        for _ in range(6):
            steps = [source.randrange(len(ring.edges)) for _ in range(source.randint(0, 6))]
            place = break_of(ring.edges, box, steps)
            if place is not None and source.random() < 0.5:
                steps = steps[:place + 1]
            good = bool(steps) and place == len(steps) - 1
            self.assertIs(self.ask(ring.accepts, box, ("climb", steps)), good)

    def test_full_size(self):
        names = [f"n{number}" for number in range(16)]
        box = {name: [-10 ** 12 + k * 10 ** 10 for k in range(16)] for name in names}
        edges = [(names[k], names[(k + 1) % 16], -1 if k < 15 else 15 * 10 ** 10) for k in range(16)]
        edges = edges + [(names[k], names[(k + 2) % 16], 10 ** 20) for k in range(48 % 16 + 16)]
        edges = edges + [(names[k], names[(k + 7) % 16], 10 ** 12) for k in range(16)] * 2
        self.assertEqual(len(edges), 64)
        ring = Ring(edges)
        expected = {name: box[name][k] for k, name in enumerate(names)}
        self.assertEqual(self.ask(ring.witness, box), expected)
        self.assertEqual(self.ask(ring.highest, box), expected)
        for name in names:
            self.assertEqual(self.ask(ring.supported, box, name), [expected[name]])
        over = Ring(edges[:15] + [(names[15], names[0], 15 * 10 ** 10 - 1)] + edges[16:])
        certificate = self.ask(over.certificate, box)
        self.assertEqual(certificate[0], "climb")
        self.assertIs(over.accepts(box, certificate), True)
        loose = Ring([(names[k], names[(k + 1) % 16], 0) for k in range(16)] * 4)
        self.assertEqual(self.ask(loose.supported, box, "n5"), box["n5"])


if __name__ == "__main__":
    unittest.main()
