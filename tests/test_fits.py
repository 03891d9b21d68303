import itertools
import unittest

from curbdesk.fits import full_fit, merged_fit, wanted_fit
from tests.support import DeskCase, all_in, random_box, seeded


def taken(values):
    """Return how many names take each value."""
    counts = {}
    for value in values.values():
        counts[value] = counts.get(value, 0) + 1
    return counts


class FullFitTest(DeskCase):
    def check_fit(self, box, highs, result):
        word, values = result
        self.assertEqual(word, "fit")
        self.assertEqual(set(values), set(box))
        self.assertTrue(all(values[name] in box[name] for name in box))
        self.assertTrue(all(many <= highs.get(value, many) for value, many in taken(values).items()))

    def check_crowd(self, box, highs, result):
        word, names = result
        self.assertEqual(word, "crowd")
        self.assertIs(type(names), list)
        self.assertGreater(len(names), 0)
        self.assertEqual(len(names), len(set(names)))
        self.assertLessEqual(set(names), set(box))
        union = {value for name in names for value in box[name]}
        self.assertLessEqual(union, set(highs))
        self.assertLess(sum(highs[value] for value in union), len(names))

    def test_fit(self):
        box = {"a": [1, 2], "b": [1, 3], "c": [1]}
        result = self.ask(full_fit, box, {1: 1, 2: 1, 3: 1})
        self.assertEqual(result, ("fit", {"a": 2, "b": 3, "c": 1}))
        self.check_fit(box, {1: 2}, self.ask(full_fit, box, {1: 2}))
        self.check_fit(box, {1: 10 ** 12, 7: 0}, self.ask(full_fit, box, {1: 10 ** 12, 7: 0}))

    def test_crowd(self):
        box = {"a": [1, 2], "z": [9], "b": [1, 2], "c": [1]}
        highs = {1: 1, 2: 1, 3: 1}
        result = self.ask(full_fit, box, highs)
        self.assertEqual((result[0], sorted(result[1])), ("crowd", ["a", "b", "c"]))
        self.check_crowd(box, highs, result)

    def test_values_that_are_not_listed_have_room_for_all(self):
        box = {name: [4] for name in "abcdef"}
        self.assertEqual(self.ask(full_fit, box, {}), ("fit", {name: 4 for name in "abcdef"}))
        self.check_fit(box, {5: 0}, self.ask(full_fit, box, {5: 0}))

    def test_zeros(self):
        self.check_crowd({"a": [1]}, {1: 0}, self.ask(full_fit, {"a": [1]}, {1: 0}))
        self.assertEqual(self.ask(full_fit, {"a": [1, 2]}, {1: 0}), ("fit", {"a": 2}))

    def test_no_names(self):
        self.assertEqual(self.ask(full_fit, {}, {}), ("fit", {}))
        self.assertEqual(self.ask(full_fit, {}, {1: 0}), ("fit", {}))

    def test_empty_sides(self):
        self.assertEqual(self.ask(full_fit, {"a": [1], "b": []}, {}), ("crowd", ["b"]))
        self.assertEqual(self.ask(full_fit, {"b": []}, {1: 5}), ("crowd", ["b"]))

    def test_long_way(self):
        """Each further name pushes all others on by one value."""
        names = [f"n{k}" for k in range(8)]
        box = {name: [k, k + 1] for k, name in enumerate(names)}
        box["last"] = [0]
        highs = {k: 1 for k in range(9)}
        self.check_fit(box, highs, self.ask(full_fit, box, highs))
        box["more"] = [3]
        self.check_crowd(box, highs, self.ask(full_fit, box, highs))

    def test_random(self):
        source = seeded(41)
        crowds = 0
        for _ in range(500):
            box = random_box(source, ["a", "b", "c", "d"][:source.randint(0, 4)], 3, least=source.choice([0, 1, 1]))
            highs = {value: source.randint(0, 2) for value in range(-1, 4) if source.random() < 0.7}
            fits = [
                values for values in all_in(box)
                if all(many <= highs.get(value, many) for value, many in taken(values).items())
            ]
            result = self.ask(full_fit, box, highs)
            if fits:
                self.check_fit(box, highs, result)
            else:
                crowds += 1
                self.check_crowd(box, highs, result)
        self.assertTrue(100 < crowds < 400, crowds)

    def test_full_size(self):
        names = [f"n{k}" for k in range(16)]
        box = {name: list(range(16)) for name in names}
        highs = {value: 1 for value in range(40)}
        self.check_fit(box, highs, self.ask(full_fit, box, highs))
        highs[7] = 0
        self.check_crowd(box, highs, self.ask(full_fit, box, highs))
        huge = {name: [10 ** 12 - k for k in reversed(range(16))] for name in names}
        highs = {10 ** 12 - k: 10 ** 12 if k == 3 else 0 for k in range(40)}
        self.assertEqual(self.ask(full_fit, huge, highs), ("fit", {name: 10 ** 12 - 3 for name in names}))


class WantedFitTest(DeskCase):
    def check_fit(self, box, lows, result):
        word, values = result
        self.assertEqual(word, "fit")
        self.assertTrue(all(name in box and value in box[name] for name, value in values.items()))
        self.assertEqual(taken(values), {value: low for value, low in lows.items() if low > 0})

    def check_want(self, box, lows, result):
        word, wanted = result
        self.assertEqual(word, "want")
        self.assertIs(type(wanted), list)
        self.assertEqual(len(wanted), len(set(wanted)))
        self.assertLessEqual(set(wanted), set(lows))
        able = [name for name in box if set(box[name]) & set(wanted)]
        self.assertGreater(sum(lows[value] for value in wanted), len(able))

    def test_fit(self):
        box = {"a": [1, 2], "b": [1], "c": [2, 3], "d": []}
        self.assertEqual(self.ask(wanted_fit, box, {1: 1, 2: 2}), ("fit", {"a": 2, "b": 1, "c": 2}))
        self.check_fit(box, {3: 1}, self.ask(wanted_fit, box, {3: 1}))
        self.check_fit(box, {1: 2, 3: 1}, self.ask(wanted_fit, box, {1: 2, 3: 1}))

    def test_want(self):
        box = {"a": [1, 2], "b": [1, 2], "c": [3]}
        lows = {1: 1, 2: 2, 3: 1, 4: 0}
        result = self.ask(wanted_fit, box, lows)
        self.assertEqual((result[0], sorted(result[1])), ("want", [1, 2]))
        self.check_want(box, {3: 2}, self.ask(wanted_fit, box, {3: 2}))
        self.check_want(box, {7: 1}, self.ask(wanted_fit, box, {7: 1}))
        self.check_want(box, {1: 10 ** 12}, self.ask(wanted_fit, box, {1: 10 ** 12}))

    def test_zeros_and_no_entries(self):
        self.assertEqual(self.ask(wanted_fit, {"a": [1]}, {}), ("fit", {}))
        self.assertEqual(self.ask(wanted_fit, {"a": [1]}, {1: 0, 2: 0}), ("fit", {}))
        self.assertEqual(self.ask(wanted_fit, {"a": [1], "b": [1]}, {1: 1, 2: 0})[0], "fit")

    def test_no_names_and_empty_sides(self):
        self.assertEqual(self.ask(wanted_fit, {}, {}), ("fit", {}))
        self.assertEqual(self.ask(wanted_fit, {}, {1: 0}), ("fit", {}))
        self.assertEqual(self.ask(wanted_fit, {}, {1: 1}), ("want", [1]))
        self.assertEqual(self.ask(wanted_fit, {"a": []}, {1: 1}), ("want", [1]))
        self.assertEqual(self.ask(wanted_fit, {"a": []}, {1: 0}), ("fit", {}))

    def test_long_way(self):
        """Each further value calls a name from the value before."""
        names = [f"n{k}" for k in range(8)]
        box = {name: [k, k + 1] for k, name in enumerate(names)}
        lows = {k: 1 for k in reversed(range(1, 9))}
        self.check_fit(box, lows, self.ask(wanted_fit, box, lows))
        lows = {k: 1 for k in range(8)}
        self.check_fit(box, lows, self.ask(wanted_fit, box, lows))
        lows[8] = 1
        self.check_want(box, lows, self.ask(wanted_fit, box, lows))

    def test_random(self):
        source = seeded(42)
        wants = 0
        for _ in range(500):
            box = random_box(source, ["a", "b", "c", "d"][:source.randint(0, 4)], 4, least=source.choice([0, 1, 1]))
            lows = {value: source.randint(0, 2) for value in range(-1, 4) if source.random() < 0.4}
            sides = [[None] + [value for value in side if value in lows] for side in box.values()]
            chosen = [
                {name: value for name, value in zip(box, row) if value is not None}
                for row in itertools.product(*sides)
            ]
            wished = {value: low for value, low in lows.items() if low > 0}
            result = self.ask(wanted_fit, box, lows)
            if any(taken(values) == wished for values in chosen):
                self.check_fit(box, lows, result)
            else:
                wants += 1
                self.check_want(box, lows, result)
        self.assertTrue(100 < wants < 400, wants)

    def test_full_size(self):
        names = [f"n{k}" for k in range(16)]
        box = {name: list(range(16)) for name in names}
        lows = {value: 1 if value < 16 else 0 for value in range(40)}
        self.check_fit(box, lows, self.ask(wanted_fit, box, lows))
        lows[3] = 10 ** 12
        self.check_want(box, lows, self.ask(wanted_fit, box, lows))
        lows = {3: 8, 5: 8, 39: 0}
        self.check_fit(box, lows, self.ask(wanted_fit, box, lows))
        lows = {3: 8, 5: 9}
        self.check_want(box, lows, self.ask(wanted_fit, box, lows))


class MergedFitTest(DeskCase):
    def check_merged(self, full, part, values):
        self.assertEqual(set(values), set(full))
        for name, value in values.items():
            self.assertIn(value, (full[name], part.get(name, full[name])))
        many, fully, partly = taken(values), taken(full), taken(part)
        for value in list(full.values()) + list(part.values()):
            self.assertGreaterEqual(many.get(value, 0), partly.get(value, 0))
            self.assertLessEqual(many.get(value, 0), max(fully.get(value, 0), partly.get(value, 0)))

    def test_examples(self):
        self.assertEqual(self.ask(merged_fit, {}, {}), {})
        self.assertEqual(self.ask(merged_fit, {"a": 1, "b": 2}, {}), {"a": 1, "b": 2})
        self.assertEqual(self.ask(merged_fit, {"a": 1, "b": 2}, {"a": 2, "b": 1})["a"] in (1, 2), True)
        self.assertEqual(self.ask(merged_fit, {"a": 1, "b": 1}, {"a": 3}), {"a": 3, "b": 1})
        self.assertEqual(self.ask(merged_fit, {"a": 1, "b": 1, "c": 2}, {"a": 2, "c": 1}),
                         {"a": 1, "b": 1, "c": 2})

    def test_a_move_that_asks_for_another(self):
        full = {"a": 1, "b": 2, "c": 3}
        part = {"a": 2, "b": 3, "c": 4}
        self.assertEqual(self.ask(merged_fit, full, part), part)
        part = {"c": 4, "b": 3, "a": 2}
        self.assertEqual(self.ask(merged_fit, full, part), part)

    def test_random(self):
        source = seeded(43)
        for _ in range(800):
            names = ["a", "b", "c", "d", "e"][:source.randint(0, 5)]
            full = {name: source.randint(0, 3) for name in names}
            part = {name: source.randint(0, 3) for name in names if source.random() < 0.6}
            self.check_merged(full, part, self.ask(merged_fit, full, part))

    def test_full_size(self):
        names = [f"n{k}" for k in range(16)]
        full = {name: k for k, name in enumerate(names)}
        for shift in (1, 5, 8):
            part = {name: (k + shift) % 17 for k, name in reversed(list(enumerate(names)))}
            self.check_merged(full, part, self.ask(merged_fit, full, part))
        one = {name: 10 ** 12 for name in names}
        self.check_merged(one, full, self.ask(merged_fit, one, full))
        self.assertEqual(merged_fit(one, full), full)
        self.check_merged(full, one, self.ask(merged_fit, full, one))
        self.assertEqual(merged_fit(full, one), one)


if __name__ == "__main__":
    unittest.main()
