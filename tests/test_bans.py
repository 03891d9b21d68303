import itertools
import unittest

from curbdesk.bans import Ban
from curbdesk.errors import BadRow, EmptyRule, RepeatedName
from tests.support import RuleCase, all_in, random_box, seeded, wide_box


class BanMakingTest(RuleCase):
    def test_attributes(self):
        ban = Ban(["y", "x"], [[2, 1], (1, 1), [2, 1]])
        self.assertEqual(ban.names, ("y", "x"))
        self.assertEqual(ban.rows, ((2, 1), (1, 1), (2, 1)))
        self.assertIs(type(ban.names), tuple)
        self.assertIs(type(ban.rows), tuple)
        self.assertEqual([type(row) for row in ban.rows], [tuple, tuple, tuple])
        self.assertEqual(Ban(["x"], []).rows, ())

    def test_errors(self):
        self.fails(EmptyRule, {}, Ban, [], [])
        self.fails(EmptyRule, {}, Ban, [], [(1,)])
        self.fails(RepeatedName, {"name": "x"}, Ban, ["x", "x"], [(1, 2, 3)])
        self.fails(RepeatedName, {"name": "y"}, Ban, ["x", "y", "y", "x"], [])
        self.fails(BadRow, {"row": (1,)}, Ban, ["x", "y"], [(1, 2), [1], (1, 2, 3)])
        self.fails(BadRow, {"row": (1, 2, 3)}, Ban, ["x", "y"], [[1, 2, 3], (1,)])
        self.fails(BadRow, {"row": ()}, Ban, ["x"], [()])

    def test_later_changes_have_no_effect(self):
        names = ["x", "y"]
        rows = [[1, 2], [3, 4]]
        ban = Ban(names, rows)
        names[0] = "w"
        rows[0][1] = 9
        rows.append([1, 1])
        self.assertEqual(ban.names, ("x", "y"))
        self.assertEqual(ban.rows, ((1, 2), (3, 4)))
        self.assertEqual(ban.witness({"x": [1], "y": [1, 2, 9]}), {"x": 1, "y": 1})
        self.assertIs(ban.allows({"x": 1, "y": 2}), False)


class BanTest(RuleCase):
    words = ("full",)

    def test_allows(self):
        ban = Ban(["x", "y"], [(1, 2), (2, 1)])
        self.assertIs(self.ask(ban.allows, {"x": 1, "y": 2}), False)
        self.assertIs(self.ask(ban.allows, {"y": 1, "x": 2, "z": 0}), False)
        self.assertIs(self.ask(ban.allows, {"x": 1, "y": 1}), True)
        self.assertIs(Ban(["x"], []).allows({"x": 1}), True)

    def test_witness(self):
        ban = Ban(["x", "y"], [(1, 1), (1, 2), (2, 1), (1, 1)])
        self.assertEqual(self.ask(ban.witness, {"y": [1, 2], "x": [1, 2]}), {"x": 2, "y": 2})
        self.assertEqual(self.ask(ban.witness, {"x": [1, 2], "y": [0, 1], "z": []}), {"x": 1, "y": 0})
        self.assertIsNone(self.ask(ban.witness, {"x": [1], "y": [1, 2]}))
        self.assertIsNone(self.ask(ban.witness, {"x": [1, 3], "y": []}))
        self.assertEqual(self.ask(Ban(["x"], []).witness, {"x": [-4, 2]}), {"x": -4})
        self.assertIsNone(self.ask(Ban(["x"], []).witness, {"x": []}))

    def test_supported(self):
        ban = Ban(["x", "y"], [(1, 1), (1, 2), (2, 1), (1, 1), (3, 3), (3, 3)])
        box = {"x": [1, 2, 3], "y": [1, 2]}
        self.assertEqual(self.ask(ban.supported, box, "x"), [2, 3])
        self.assertEqual(self.ask(ban.supported, box, "y"), [1, 2])
        self.assertEqual(self.ask(ban.supported, {"x": [3, 4], "y": [3]}, "x"), [4])
        self.assertEqual(self.ask(ban.supported, {"x": [3, 4], "y": []}, "x"), [])
        self.assertEqual(self.ask(ban.supported, {"x": [3, 4], "y": []}, "y"), [])
        self.assertEqual(self.ask(Ban(["x"], [(2,)]).supported, {"x": [1, 2, 3]}, "x"), [1, 3])

    def test_certificates(self):
        ban = Ban(["x", "y"], [(1, 1), (1, 1), (1, 2), (2, 1)])
        self.assertIsNone(self.ask(ban.certificate, {"x": [1, 2], "y": [1, 2]}))
        word, positions = self.ask(ban.certificate, {"x": [1], "y": [1, 2]})
        self.assertEqual(word, "full")
        self.assertIn(sorted(positions), [[0, 2], [1, 2]])
        self.assertEqual(self.ask(ban.certificate, {"x": [], "y": []}), ("empty", "x"))
        self.assertEqual(self.ask(ban.certificate, {"x": [1], "y": [], "z": []}), ("empty", "y"))

    def test_full(self):
        ban = Ban(["x", "y"], [(1, 1), (1, 1), (1, 2), (2, 1)])
        box = {"x": [1], "y": [1, 2], "z": []}
        for good in ([0, 2], [2, 0], [1, 2], [2, 1]):
            self.assertIs(self.ask(ban.accepts, box, ("full", good)), True, good)
        for bad in ([0], [0, 1], [0, 0], [0, 3], [0, 1, 2], [0, 2, 3], [], [0, 4], [0, -2], [-4, 2], [10 ** 30, 2]):
            self.assertIs(self.ask(ban.accepts, box, ("full", bad)), False, bad)

    def test_full_for_a_box_that_is_not_bare(self):
        ban = Ban(["x"], [(1,), (2,), (3,)])
        for size in range(4):
            for positions in itertools.product(range(-1, 4), repeat=size):
                self.assertIs(ban.accepts({"x": [1, 2, 4]}, ("full", list(positions))), False)

    def test_full_with_an_empty_side(self):
        ban = Ban(["x", "y"], [(1, 1)])
        self.assertIs(self.ask(ban.accepts, {"x": [], "y": [1]}, ("full", [])), True)
        self.assertIs(ban.accepts({"x": [], "y": [1]}, ("full", [0])), False)
        self.assertIs(ban.accepts({"x": [1], "y": [1]}, ("full", [])), False)

    def test_random(self):
        source = seeded(17)
        bare = 0
        for _ in range(200):
            names = source.sample(["x", "y", "z"], source.randint(1, 3))
            rows = [tuple(source.randint(-1, 1) for _ in names) for _ in range(source.randint(0, 14))]
            box = random_box(source, ["x", "y", "z"], 2)
            ban = Ban(names, rows)
            self.check_rule(ban, box, lambda values: tuple(values[name] for name in names) not in rows)
            bare += ban.witness(box) is None and all(box[name] for name in names)
            for _ in range(5):
                self.check_full(source, ban, box)
        self.assertGreater(bare, 20)

    def check_full(self, source, ban, box):
        inside = [tuple(values.values()) for values in all_in(box, ban.names)]
        content = [source.randint(-1, len(ban.rows)) for _ in inside]
        if source.random() < 0.7:
            content = [ban.rows.index(row) for row in inside if row in ban.rows]
            source.shuffle(content)
        known = all(0 <= position < len(ban.rows) for position in content)
        good = known and sorted(ban.rows[position] for position in content) == sorted(inside)
        self.assertIs(self.ask(ban.accepts, box, ("full", content)), good)

    def test_full_size(self):
        names = [f"n{number}" for number in range(8)]
        rows = [[-5] * 6 + [k // 8 - 5, k % 8 - 5] for k in range(64)]
        ban = Ban(names, rows)
        box = wide_box()
        self.assertEqual(self.ask(ban.witness, box), {**{name: -5 for name in names}, "n7": 3})
        for name in names:
            self.assertEqual(self.ask(ban.supported, box, name), list(range(-5, 15)))
        self.assertIsNone(ban.certificate(box))
        self.assertIs(ban.accepts(box, ("full", list(range(64)))), False)
        small = {**{name: [-5] for name in names}, "n6": list(range(-5, 3)), "n7": list(range(-5, 3))}
        self.assertIsNone(ban.witness(small))
        word, positions = self.ask(ban.certificate, small)
        self.assertEqual((word, sorted(positions)), ("full", list(range(64))))
        self.assertIs(ban.accepts(small, (word, positions)), True)
        self.assertIs(ban.accepts(small, ("full", [k % 64 for k in range(600)])), False)
        small["n0"] = [-5, 7]
        self.assertEqual(ban.supported(small, "n0"), [7])
        self.assertEqual(ban.witness(small), {**{name: -5 for name in names}, "n0": 7})


if __name__ == "__main__":
    unittest.main()
