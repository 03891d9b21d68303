import unittest

from curbdesk.errors import UnknownName, UnknownValue
from curbdesk.orders import precedes
from curbdesk.plain import plain_answers
from curbdesk.puzzles import Puzzle
from curbdesk.rings import Ring
from curbdesk.tables import Table
from curbdesk.unlike import Unlike
from tests.support import DeskCase, random_parts, random_side, seeded, slow_answers


class PlainAnswersTest(DeskCase):
    def test_all_answers(self):
        puzzle = Puzzle([("y", [2, 1]), ("x", [1, 3, 2])], [("a", Unlike(["x", "y"])), ("b", Ring([("y", "x", 0)]))])
        expected = [{"y": 1, "x": 2}, {"y": 1, "x": 3}, {"y": 2, "x": 3}]
        self.assertEqual(self.ask(plain_answers, puzzle), expected)
        self.assertEqual(self.ask(plain_answers, puzzle, box=None), expected)
        self.assertEqual(self.ask(plain_answers, puzzle, box={}), expected)

    def test_box(self):
        puzzle = Puzzle([("y", [2, 1]), ("x", [1, 3, 2])], [("a", Unlike(["x", "y"]))])
        self.assertEqual(self.ask(plain_answers, puzzle, box={"x": [1, 3]}),
                         [{"y": 1, "x": 3}, {"y": 2, "x": 1}, {"y": 2, "x": 3}])
        self.assertEqual(self.ask(plain_answers, puzzle, box={"x": [1], "y": [1]}), [])
        self.assertEqual(self.ask(plain_answers, puzzle, box={"x": []}), [])

    def test_without_names_and_rules(self):
        self.assertEqual(self.ask(plain_answers, Puzzle([], [])), [{}])
        self.assertEqual(self.ask(plain_answers, Puzzle([], []), box={}), [{}])
        self.assertEqual(self.ask(plain_answers, Puzzle([("x", [])], [])), [])
        self.assertEqual(self.ask(plain_answers, Puzzle([("x", [2, 1])], [])), [{"x": 1}, {"x": 2}])

    def test_errors(self):
        puzzle = Puzzle([("y", [2, 1]), ("x", [1])], [])
        self.fails(UnknownName, {"name": "z"}, plain_answers, puzzle, box={"x": [1], "z": [], "y": [5]})
        self.fails(UnknownValue, {"name": "y", "value": 3}, plain_answers, puzzle, box={"y": [1, 3, 5], "z": []})
        with self.assertRaises(TypeError):
            plain_answers(puzzle, {})

    def test_random(self):
        source = seeded(64)
        for _ in range(150):
            domains, rules = random_parts(source, least=source.choice([0, 1, 1, 1]))
            puzzle = Puzzle(domains, rules)
            found = self.ask(plain_answers, puzzle)
            self.assertEqual(found, slow_answers(domains, rules))
            for one, other in zip(found, found[1:]):
                self.assertIs(precedes(one, other, [name for name, _ in domains]), True)
            box = {name: [v for v in random_side(source, 4) if v in values] for name, values in domains[1:]}
            self.assertEqual(self.ask(plain_answers, puzzle, box=box), slow_answers(domains, rules, box))

    def test_full_size(self):
        names = ["a", "b", "c", "d", "e", "f", "g", "h"]
        domains = [(name, [1, 2]) for name in names] + [("i", [1, 2])]
        rules = [(f"r{k}", Table(names, [[1 + (k >> place) % 2 for place in range(8)] for k in range(64)]))
                 for k in range(16)]
        self.assertEqual(len(plain_answers(Puzzle(domains, []))), 512)
        self.assertEqual(len(plain_answers(Puzzle(domains, rules))), 128)


if __name__ == "__main__":
    unittest.main()
