import itertools
import unittest

from curbdesk.cycles import loosest
from tests.support import DeskCase, meets, names_of, random_edges, seeded


class LoosestTest(DeskCase):
    def check_cycle(self, edges, result):
        word, positions = result
        self.assertEqual(word, "cycle")
        self.assertIs(type(positions), list)
        self.assertGreater(len(positions), 0)
        self.assertEqual(len(positions), len(set(positions)))
        self.assertTrue(all(0 <= position < len(edges) for position in positions))
        for position, following in zip(positions, positions[1:] + positions[:1]):
            self.assertEqual(edges[position][1], edges[following][0])
        self.assertLess(sum(edges[position][2] for position in positions), 0)

    def test_values(self):
        self.assertEqual(self.ask(loosest, [("a", "b", -3)]), ("values", {"a": -3, "b": 0}))
        self.assertEqual(self.ask(loosest, [("a", "b", 3)]), ("values", {"a": 0, "b": 0}))
        edges = [("a", "b", -3), ("b", "c", -4), ("a", "c", -6), ("c", "a", 7), ("d", "d", 0)]
        self.assertEqual(self.ask(loosest, edges), ("values", {"a": -7, "b": -4, "c": 0, "d": 0}))

    def test_no_edges(self):
        self.assertEqual(self.ask(loosest, []), ("values", {}))

    def test_cycle_of_one_edge(self):
        self.assertEqual(self.ask(loosest, [("a", "a", -1)]), ("cycle", [0]))
        self.assertEqual(self.ask(loosest, [("a", "b", 5), ("b", "b", 0), ("b", "b", -1)]), ("cycle", [2]))
        self.assertEqual(self.ask(loosest, [("a", "a", 0)]), ("values", {"a": 0}))

    def test_cycle_behind_other_edges(self):
        edges = [("a", "b", -1), ("b", "c", 2), ("c", "d", -3), ("d", "c", 2), ("e", "a", -9)]
        result = self.ask(loosest, edges)
        self.check_cycle(edges, result)
        self.assertEqual(sorted(result[1]), [2, 3])

    def test_several_edges_between_the_same_names(self):
        edges = [("a", "b", 5), ("a", "b", 1), ("b", "a", 3), ("b", "a", -2)]
        self.check_cycle(edges, self.ask(loosest, edges))
        self.assertEqual(self.ask(loosest, edges[:3]), ("values", {"a": 0, "b": 0}))
        self.assertEqual(self.ask(loosest, [("a", "b", -1), ("b", "a", 1)]), ("values", {"a": -1, "b": 0}))

    def test_random(self):
        source = seeded(33)
        cycles = 0
        for _ in range(400):
            names = ["a", "b", "c", "d", "e"][:source.randint(1, 5)]
            edges = random_edges(source, names, 8, low=-2, high=4)
            result = self.ask(loosest, edges)
            if result[0] == "cycle":
                cycles += 1
                self.check_cycle(edges, result)
            else:
                self.check_values(edges, result)
        self.assertTrue(100 < cycles < 300, cycles)

    def check_values(self, edges, result):
        """The values meet the edges, and each is 0 or as high as some edge lets it be, down to one at 0."""
        word, values = result
        self.assertEqual(word, "values")
        self.assertEqual(set(values), set(names_of(edges)))
        self.assertTrue(meets(edges, values))
        self.assertLessEqual(max(values.values()), 0)
        held = {name for name, value in values.items() if value == 0}
        for _ in names_of(edges):
            held |= {first for first, second, gap in edges if second in held and values[first] == values[second] + gap}
        self.assertEqual(held, set(values))

    def test_small_ones_against_all_values(self):
        source = seeded(34)
        for _ in range(60):
            edges = random_edges(source, ["a", "b", "c"], 4, low=-2, high=2)
            names = names_of(edges)
            every = [dict(zip(names, row)) for row in itertools.product(range(-6, 1), repeat=len(names))]
            allowed = [values for values in every if meets(edges, values)]
            result = self.ask(loosest, edges)
            if allowed:
                self.assertEqual(result, ("values", {name: max(v[name] for v in allowed) for name in names}))
            else:
                self.check_cycle(edges, result)

    def test_full_size(self):
        names = [f"n{number}" for number in range(16)]
        circle = [(names[k], names[(k + 1) % 16], -10 ** 20) for k in range(15)]
        more = [(names[k], names[(k + 3) % 16], 10 ** 20) for k in range(16)] * 3
        closed = circle + [(names[15], names[0], 15 * 10 ** 20)] + more
        self.assertEqual(len(closed), 64)
        self.assertEqual(self.ask(loosest, closed)[0], "cycle")
        self.check_cycle(closed, self.ask(loosest, closed))
        closed = circle + [(names[15], names[0], 15 * 10 ** 20)] + [(names[k], names[k], 0) for k in range(16)] * 3
        expected = {name: (k - 15) * 10 ** 20 for k, name in enumerate(names)}
        self.assertEqual(self.ask(loosest, closed), ("values", expected))
        tight = circle + [(names[15], names[0], 15 * 10 ** 20 - 1)]
        self.assertEqual(sorted(self.ask(loosest, tight)[1]), list(range(16)))
        self.check_cycle(tight, self.ask(loosest, tight))
        backwards = list(reversed(tight))
        self.check_cycle(backwards, self.ask(loosest, backwards))


if __name__ == "__main__":
    unittest.main()
