import unittest

from curbdesk.errors import RepeatedName, UnknownName
from curbdesk.puzzles import Puzzle
from curbdesk.worths import best_in, checked_worth, is_better, worth_of
from tests.support import DeskCase, all_in, random_box, seeded, wide_box


class CheckedWorthTest(DeskCase):
    def test_ordinary(self):
        puzzle = Puzzle([("x", [1]), ("y", [])], [])
        result = self.ask(checked_worth, puzzle, [(2, "y"), (0, "x")])
        self.assertEqual(result, [(2, "y"), (0, "x")])
        self.assertEqual([type(pair) for pair in result], [tuple, tuple])
        self.assertEqual(self.ask(checked_worth, puzzle, []), [])
        self.assertEqual(self.ask(checked_worth, Puzzle([], []), []), [])

    def test_the_list_is_new(self):
        worth = [(1, "x")]
        self.assertIsNot(checked_worth(Puzzle([("x", [1])], []), worth), worth)

    def test_errors(self):
        puzzle = Puzzle([("x", [1]), ("y", [])], [])
        self.fails(UnknownName, {"name": "z"}, checked_worth, puzzle, [(1, "x"), (1, "z"), (1, "x"), (1, "w")])
        self.fails(RepeatedName, {"name": "x"}, checked_worth, puzzle, [(1, "x"), (1, "y"), (2, "x"), (1, "z")])
        self.fails(UnknownName, {"name": "z"}, checked_worth, puzzle, [(1, "z"), (1, "z")])
        self.fails(RepeatedName, {"name": "y"}, checked_worth, puzzle, [(1, "x"), (0, "y"), (0, "y"), (2, "x")])


class WorthOfTest(DeskCase):
    def test_ordinary(self):
        self.assertEqual(self.ask(worth_of, [(2, "x"), (-3, "y")], {"x": 5, "y": 4}), -2)
        self.assertEqual(self.ask(worth_of, [(2, "x"), (0, "y")], {"x": 5, "y": 4, "z": 10 ** 12}), 10)
        self.assertEqual(self.ask(worth_of, [], {"x": 5}), 0)
        self.assertEqual(self.ask(worth_of, [], {}), 0)
        large = [(10 ** 6, f"n{number}") for number in range(8)]
        self.assertEqual(worth_of(large, {f"n{number}": -10 ** 12 for number in range(8)}), -8 * 10 ** 18)


class BestInTest(DeskCase):
    def test_ordinary(self):
        worth, box = [(2, "x"), (-1, "y")], {"x": [1, 4], "y": [0, 3], "z": []}
        self.assertEqual(self.ask(best_in, worth, box), -1)
        self.assertEqual(self.ask(best_in, worth, box, greatest=False), -1)
        self.assertEqual(self.ask(best_in, worth, box, greatest=True), 8)

    def test_edges(self):
        self.assertEqual(self.ask(best_in, [], {}), 0)
        self.assertEqual(self.ask(best_in, [], {"x": []}, greatest=True), 0)
        self.assertEqual(self.ask(best_in, [(0, "x")], {"x": [3, 4]}, greatest=True), 0)
        with self.assertRaises(TypeError):
            best_in([], {}, True)

    def test_random(self):
        source = seeded(88)
        for _ in range(300):
            names = ["a", "b", "c"][:source.randint(0, 3)]
            worth = [(source.randint(-3, 3), name) for name in source.sample(names, source.randint(0, len(names)))]
            box = random_box(source, names, 4, least=1)
            worths = [worth_of(worth, values) for values in all_in(box)]
            self.assertEqual(self.ask(best_in, worth, box), min(worths))
            self.assertEqual(self.ask(best_in, worth, box, greatest=True), max(worths))

    def test_wide(self):
        box = wide_box()
        worth = [(1 + number, f"n{number}") for number in range(8)]
        self.assertEqual(best_in(worth, box), -5 * 36)
        self.assertEqual(best_in(worth, box, greatest=True), 14 * 36)


class IsBetterTest(DeskCase):
    def test_all(self):
        self.assertIs(is_better(1, 2, False), True)
        self.assertIs(is_better(1, 2, True), False)
        self.assertIs(is_better(2, 1, True), True)
        for greatest in (True, False):
            self.assertIs(is_better(2, 2, greatest), False)


if __name__ == "__main__":
    unittest.main()
