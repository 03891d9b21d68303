import unittest

from curbdesk.sides import common, is_within, next_value, side_of, united, without
from tests.support import DeskCase, random_side, seeded


class SidesTest(DeskCase):
    def test_side_of(self):
        self.assertEqual(self.ask(side_of, [3, 1, 2]), [1, 2, 3])
        self.assertEqual(self.ask(side_of, [5, -1, 5, 5, -2, -1]), [-2, -1, 5])
        self.assertEqual(self.ask(side_of, []), [])
        self.assertEqual(self.ask(side_of, [7]), [7])
        self.assertEqual(self.ask(side_of, [10 ** 12, -10 ** 12, 9]), [-10 ** 12, 9, 10 ** 12])

    def test_side_of_a_side_is_new(self):
        side = [1, 2, 3]
        again = side_of(side)
        self.assertEqual(again, side)
        self.assertIsNot(again, side)

    def test_common(self):
        self.assertEqual(self.ask(common, [1, 2, 3], [2, 3, 4]), [2, 3])
        self.assertEqual(self.ask(common, [-2, -1, 40], [-2, -1, 40]), [-2, -1, 40])
        self.assertEqual(self.ask(common, [1, 2], [3]), [])
        self.assertEqual(self.ask(common, [], [3]), [])
        self.assertEqual(self.ask(common, [3], []), [])

    def test_united(self):
        self.assertEqual(self.ask(united, [1, 5], [2, 5]), [1, 2, 5])
        self.assertEqual(self.ask(united, [10], [-10]), [-10, 10])
        self.assertEqual(self.ask(united, [], [3]), [3])
        self.assertEqual(self.ask(united, [3], []), [3])
        self.assertEqual(self.ask(united, [], []), [])

    def test_without(self):
        self.assertEqual(self.ask(without, [1, 2, 3], [2]), [1, 3])
        self.assertEqual(self.ask(without, [1, 2], [3]), [1, 2])
        self.assertEqual(self.ask(without, [1, 2], [1, 2, 3]), [])
        self.assertEqual(self.ask(without, [], [1]), [])
        self.assertEqual(self.ask(without, [-30, 7, 8], []), [-30, 7, 8])

    def test_is_within(self):
        self.assertIs(is_within([1, 2], [1, 2, 3]), True)
        self.assertIs(is_within([1, 2], [1, 2]), True)
        self.assertIs(is_within([1, 2, 3], [1, 2]), False)
        self.assertIs(is_within([1, 4], [1, 2, 3]), False)
        self.assertIs(is_within([], []), True)
        self.assertIs(is_within([], [1]), True)
        self.assertIs(is_within([1], []), False)
        self.ask(is_within, [1, 2], [2, 3])

    def test_next_value(self):
        self.assertEqual(self.ask(next_value, [1, 4, 9], 2), 4)
        self.assertEqual(self.ask(next_value, [1, 4, 9], 4), 4)
        self.assertEqual(self.ask(next_value, [1, 4, 9], 5), 9)
        self.assertEqual(self.ask(next_value, [1, 4, 9], -50), 1)
        self.assertIsNone(self.ask(next_value, [1, 4, 9], 10))
        self.assertEqual(self.ask(next_value, [1, 4, 9], 9), 9)
        self.assertIsNone(self.ask(next_value, [], 0))
        self.assertEqual(self.ask(next_value, [-3, 0], -2), 0)

    def test_against_single_values(self):
        source = seeded(4)
        for _ in range(200):
            first = random_side(source, 6)
            second = random_side(source, 6)
            everything = range(-2, 8)
            both = [v for v in everything if v in first and v in second]
            some = [v for v in everything if v in first or v in second]
            rest = [v for v in everything if v in first and v not in second]
            self.assertEqual(common(first, second), both)
            self.assertEqual(united(first, second), some)
            self.assertEqual(without(first, second), rest)
            self.assertIs(is_within(first, second), not rest)


if __name__ == "__main__":
    unittest.main()
