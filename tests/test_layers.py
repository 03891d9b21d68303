import unittest

from curbdesk.layers import live_layers, sum_layers
from tests.support import DeskCase, all_in, random_box, seeded

TERMS = [(2, "x"), (-1, "y")]
BOX = {"x": [1, 2], "y": [0, 3]}


class LayersTest(DeskCase):
    def test_examples(self):
        self.assertEqual(self.ask(sum_layers, TERMS, BOX), [[0], [2, 4], [-1, 1, 2, 4]])
        self.assertEqual(self.ask(live_layers, TERMS, BOX, low=0, high=1), [[0], [4], [1]])

    def test_no_terms(self):
        self.assertEqual(self.ask(sum_layers, [], {}), [[0]])
        self.assertEqual(self.ask(sum_layers, [], {"x": []}), [[0]])
        self.assertEqual(self.ask(live_layers, [], {}), [[0]])
        self.assertEqual(self.ask(live_layers, [], {}, low=0, high=0), [[0]])
        self.assertEqual(self.ask(live_layers, [], {}, low=1), [[]])
        self.assertEqual(self.ask(live_layers, [], {}, high=-1), [[]])

    def test_empty_side(self):
        box = {"x": [1, 2], "y": [], "z": [5]}
        terms = [(1, "x"), (1, "y"), (1, "z")]
        self.assertEqual(self.ask(sum_layers, terms, box), [[0], [1, 2], [], []])
        self.assertEqual(self.ask(live_layers, terms, box), [[], [], [], []])

    def test_bounds_that_are_none(self):
        self.assertEqual(self.ask(live_layers, TERMS, BOX), sum_layers(TERMS, BOX))
        self.assertEqual(self.ask(live_layers, TERMS, BOX, low=2), [[0], [2, 4], [2, 4]])
        self.assertEqual(self.ask(live_layers, TERMS, BOX, high=-1), [[0], [2], [-1]])
        self.assertEqual(self.ask(live_layers, TERMS, BOX, low=None, high=None), sum_layers(TERMS, BOX))

    def test_bounds_belong_to_what_is_allowed(self):
        self.assertEqual(self.ask(live_layers, TERMS, BOX, low=2, high=4), [[0], [2, 4], [2, 4]])
        self.assertEqual(self.ask(live_layers, TERMS, BOX, low=4, high=4), [[0], [4], [4]])
        self.assertEqual(self.ask(live_layers, TERMS, BOX, low=0, high=0), [[], [], []])

    def test_no_total_within_the_bounds(self):
        self.assertEqual(self.ask(live_layers, TERMS, BOX, low=5), [[], [], []])
        self.assertEqual(self.ask(live_layers, TERMS, BOX, low=3, high=1), [[], [], []])
        self.assertEqual(self.ask(live_layers, TERMS, BOX, low=10 ** 20, high=-10 ** 20), [[], [], []])

    def test_coefficient_of_zero(self):
        self.assertEqual(self.ask(sum_layers, [(0, "x"), (1, "y")], BOX), [[0], [0], [0, 3]])
        self.assertEqual(self.ask(live_layers, [(1, "y"), (0, "x")], BOX, low=1), [[0], [3], [3]])
        self.assertEqual(self.ask(sum_layers, [(0, "x")], {"x": []}), [[0], []])
        self.assertEqual(self.ask(live_layers, [(0, "x")], {"x": []}), [[], []])

    def test_other_names_are_ignored(self):
        self.assertEqual(self.ask(sum_layers, [(1, "x")], {**BOX, "z": []}), [[0], [1, 2]])

    def test_random(self):
        source = seeded(20)
        for _ in range(200):
            names = source.sample(["x", "y", "z"], source.randint(0, 3))
            terms = [(source.randint(-3, 3), name) for name in names]
            box = random_box(source, ["x", "y", "z"], 3)
            bounds = {key: source.choice([None, source.randint(-4, 4)]) for key in ("low", "high")}
            self.check_layers(terms, box, **bounds)

    def check_layers(self, terms, box, low, high):
        sums, live = self.ask(sum_layers, terms, box), self.ask(live_layers, terms, box, low=low, high=high)
        self.assertEqual(len(sums), len(terms) + 1)
        self.assertEqual(len(live), len(terms) + 1)
        for place in range(len(terms) + 1):
            front, back = terms[:place], terms[place:]
            reached = {self.total(front, values) for values in all_in(box, [name for _, name in front])}
            rests = [self.total(back, values) for values in all_in(box, [name for _, name in back])]
            self.assertEqual(sums[place], sorted(reached))
            kept = [n for n in sorted(reached) if any(self.is_within(n + rest, low, high) for rest in rests)]
            self.assertEqual(live[place], kept)

    def total(self, terms, values):
        return sum(coefficient * values[name] for coefficient, name in terms)

    def is_within(self, total, low, high):
        return not (low is not None and total < low) and not (high is not None and total > high)

    def test_full_size(self):
        terms = [(16 ** place, f"n{place}") for place in range(3)]
        box = {f"n{place}": list(range(16)) for place in range(3)}
        self.assertEqual(self.ask(sum_layers, terms, box)[-1], list(range(4096)))
        self.assertEqual(self.ask(live_layers, terms, box, low=4095), [[0], [15], [255], [4095]])
        terms = [(10 ** 6, f"n{place}") for place in range(20)]
        box = {f"n{place}": [10 ** 12 - place, 10 ** 12] if place < 12 else [-10 ** 12] for place in range(20)}
        self.assertEqual(self.ask(live_layers, terms, box, low=4 * 10 ** 18)[-1], [4 * 10 ** 18])


if __name__ == "__main__":
    unittest.main()
