import itertools
import unittest

from curbdesk.errors import BadOrder
from curbdesk.orders import checked_order, in_order, precedes
from curbdesk.puzzles import Puzzle
from tests.support import DeskCase, seeded


class CheckedOrderTest(DeskCase):
    puzzle = Puzzle([("b", [1]), ("a", [1, 2]), ("c", [])], [])

    def test_order(self):
        self.assertEqual(self.ask(checked_order, self.puzzle, None), ["b", "a", "c"])
        for order in itertools.permutations(["a", "b", "c"]):
            self.assertEqual(self.ask(checked_order, self.puzzle, list(order)), list(order))
        self.assertEqual(self.ask(checked_order, Puzzle([], []), []), [])
        self.assertEqual(self.ask(checked_order, Puzzle([], []), None), [])

    def test_bad_order(self):
        for order in (
            [], ["a"], ["a", "b"], ["a", "b", "c", "a"], ["a", "b", "c", "d"], ["a", "a", "b"], ["a", "b", "d"],
            ["a", "a", "b", "c", "c"],
        ):
            error = self.fails(BadOrder, {"names": tuple(order)}, checked_order, self.puzzle, order)
            self.assertIs(type(error.names), tuple)
        self.fails(BadOrder, {"names": ("a",)}, checked_order, Puzzle([], []), ["a"])


class PrecedesTest(DeskCase):
    def test_precedes(self):
        first, second = {"a": 1, "b": 2}, {"a": 2, "b": 1}
        self.assertIs(self.ask(precedes, first, second, ["a", "b"]), True)
        self.assertIs(self.ask(precedes, second, first, ["a", "b"]), False)
        self.assertIs(self.ask(precedes, first, second, ["b", "a"]), False)
        self.assertIs(self.ask(precedes, second, first, ["b", "a"]), True)
        self.assertIs(self.ask(precedes, first, second, ["a", "b"], greatest_first=True), False)
        self.assertIs(self.ask(precedes, second, first, ["a", "b"], greatest_first=True), True)
        self.assertIs(self.ask(precedes, first, second, ["a"], greatest_first=False), True)

    def test_equal_assignments(self):
        for greatest_first in (True, False):
            same = {"a": 1, "b": 2}
            self.assertIs(precedes(same, dict(same), ["a", "b"], greatest_first=greatest_first), False)
            self.assertIs(precedes({}, {}, [], greatest_first=greatest_first), False)
            self.assertIs(precedes(same, {"a": 1, "b": 3}, ["a"], greatest_first=greatest_first), False)
        self.assertIs(precedes({"a": 1, "b": 2}, {"a": 1, "b": 3}, ["a", "b"]), True)

    def test_by_keyword_only(self):
        with self.assertRaises(TypeError):
            precedes({"a": 1}, {"a": 2}, ["a"], True)
        with self.assertRaises(TypeError):
            in_order([], ["a"], True)


class InOrderTest(DeskCase):
    def test_in_order(self):
        answers = [{"a": 2, "b": 1}, {"a": 1, "b": 3}, {"a": 1, "b": 2}, {"a": -5, "b": 10 ** 12}]
        two, three, one, low = answers
        self.assertEqual(self.ask(in_order, answers, ["a", "b"]), [low, one, three, two])
        self.assertEqual(self.ask(in_order, answers, ["b", "a"]), [two, one, three, low])
        self.assertEqual(self.ask(in_order, answers, ["a", "b"], greatest_first=True), [two, three, one, low])
        self.assertEqual(self.ask(in_order, [], ["a"]), [])
        self.assertEqual(self.ask(in_order, [{}, {}], []), [{}, {}])

    def test_those_that_agree_keep_their_order(self):
        answers = [{"a": 1, "b": 3}, {"a": 0, "b": 0}, {"a": 1, "b": 1}, {"a": 1, "b": 2}, {"a": 0, "b": 7}]
        self.assertEqual([v["b"] for v in self.ask(in_order, answers, ["a"])], [0, 7, 3, 1, 2])
        self.assertEqual([v["b"] for v in self.ask(in_order, answers, ["a"], greatest_first=True)], [3, 1, 2, 0, 7])
        self.assertEqual(self.ask(in_order, answers, []), answers)

    def test_the_same_dictionary_twice(self):
        values = {"a": 1}
        found = in_order([values, values], ["a"])
        found[0]["a"] = 7
        self.assertEqual((found[1], values), ({"a": 1}, {"a": 1}))

    def test_random(self):
        source = seeded(63)
        for _ in range(100):
            answers = [{name: source.randint(0, 2) for name in "abc"} for _ in range(source.randint(0, 8))]
            order = source.sample("abc", source.randint(0, 3))
            greatest_first = source.choice([True, False])
            found = self.ask(in_order, answers, order, greatest_first=greatest_first)
            self.assertEqual(sorted(map(str, found)), sorted(map(str, answers)))
            for one, other in itertools.combinations(found, 2):
                self.assertIs(self.ask(precedes, other, one, order, greatest_first=greatest_first), False)


if __name__ == "__main__":
    unittest.main()
