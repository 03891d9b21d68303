import unittest

from curbdesk.climbs import least_climb
from tests.support import DeskCase, all_in, break_of, meets, names_of, random_box, random_edges, seeded


class LeastClimbTest(DeskCase):
    def check_over(self, edges, box, result):
        word, steps = result
        self.assertEqual(word, "over")
        self.assertIs(type(steps), list)
        self.assertTrue(all(0 <= position < len(edges) for position in steps))
        self.assertEqual(break_of(edges, box, steps), len(steps) - 1)

    def test_least(self):
        edges = [("a", "b", -2), ("b", "c", 0)]
        box = {"a": [1, 4], "b": [2, 5, 9], "c": [3, 5, 6]}
        self.assertEqual(self.ask(least_climb, edges, box), ("least", {"a": 1, "b": 5, "c": 5}))
        self.assertEqual(self.ask(least_climb, [("a", "b", 0)], {"a": [1], "b": [1]}), ("least", {"a": 1, "b": 1}))
        self.assertEqual(self.ask(least_climb, [("a", "b", 1)], {"a": [3], "b": [1, 2]}), ("least", {"a": 3, "b": 2}))

    def test_over(self):
        edges = [("a", "b", -2), ("b", "c", 0)]
        box = {"a": [1, 4], "b": [2, 5, 9], "c": [3, 4]}
        self.check_over(edges, box, self.ask(least_climb, edges, box))
        for box in ({"a": [1], "b": [2], "c": [3]}, {"a": [1], "b": [3], "c": [2]}, {"a": [5], "b": [6], "c": [1]}):
            self.check_over(edges, box, self.ask(least_climb, edges, box))

    def test_no_edges(self):
        self.assertEqual(self.ask(least_climb, [], {}), ("least", {}))
        self.assertEqual(self.ask(least_climb, [], {"a": [1], "b": []}), ("least", {}))

    def test_other_names_are_ignored(self):
        box = {"z": [], "a": [1], "y": [7], "b": [0, 1, 2]}
        self.assertEqual(self.ask(least_climb, [("a", "b", -1)], box), ("least", {"a": 1, "b": 2}))

    def test_both_names_the_same(self):
        self.assertEqual(self.ask(least_climb, [("a", "a", 0)], {"a": [1, 2]}), ("least", {"a": 1}))
        self.assertEqual(self.ask(least_climb, [("a", "a", 10 ** 20)], {"a": [1, 2]}), ("least", {"a": 1}))
        edges = [("a", "a", -1)]
        for side in ([1], [1, 2, 3], [1, 5, 6, 9]):
            self.check_over(edges, {"a": side}, self.ask(least_climb, edges, {"a": side}))

    def test_several_edges_between_the_same_names(self):
        edges = [("a", "b", 0), ("a", "b", -3), ("a", "b", -1), ("a", "b", 5)]
        self.assertEqual(self.ask(least_climb, edges, {"a": [0], "b": [0, 2, 4]}), ("least", {"a": 0, "b": 4}))
        self.check_over(edges, {"a": [0], "b": [0, 1, 2]}, self.ask(least_climb, edges, {"a": [0], "b": [0, 1, 2]}))

    def test_a_circle_climbs_again_and_again(self):
        edges = [("a", "b", -1), ("b", "a", 0)]
        box = {"a": [0, 2, 4, 6], "b": [0, 1, 3, 5]}
        self.check_over(edges, box, self.ask(least_climb, edges, box))
        box["b"] = [0, 1, 3, 5, 7]
        self.assertEqual(self.ask(least_climb, [("a", "b", -1), ("b", "a", 1)], box), ("least", {"a": 0, "b": 1}))

    def test_random(self):
        source = seeded(31)
        over = 0
        for _ in range(400):
            names = ["a", "b", "c", "d"][:source.randint(1, 4)]
            edges = random_edges(source, names, 6)
            box = random_box(source, ["a", "b", "c", "d"], 4, least=1)
            allowed = [values for values in all_in(box, names_of(edges)) if meets(edges, values)]
            result = self.ask(least_climb, edges, box)
            if allowed:
                least = {name: min(values[name] for values in allowed) for name in names_of(edges)}
                self.assertEqual(result, ("least", least))
            else:
                over += 1
                self.check_over(edges, box, result)
        self.assertTrue(100 < over < 300, over)

    def test_full_size(self):
        names = [f"n{number}" for number in range(16)]
        box = {name: [10 ** 12 * k // 16 for k in range(16)] for name in names}
        circle = [(names[k], names[(k + 1) % 16], -1) for k in range(16)]
        edges = circle + [(names[k], names[(k + 3) % 16], -10 ** 9) for k in range(16)]
        edges = edges + [(names[k], names[(k + 5) % 16], 10 ** 20) for k in range(32 % 16 + 16)]
        edges = edges + [(names[k], names[k], 0) for k in range(16)]
        self.assertEqual(len(edges), 64)
        self.check_over(edges, box, self.ask(least_climb, edges, box))
        chain = [(names[k], names[k + 1], -1) for k in reversed(range(15))]
        least = {name: 10 ** 12 * k // 16 for k, name in enumerate(names)}
        self.assertEqual(self.ask(least_climb, chain, box), ("least", least))
        self.check_over([("a", "b", -10 ** 20)], {"a": [-10 ** 12], "b": [10 ** 12]},
                        self.ask(least_climb, [("a", "b", -10 ** 20)], {"a": [-10 ** 12], "b": [10 ** 12]}))


if __name__ == "__main__":
    unittest.main()
