import unittest

from curbdesk.errors import NoClash, NotStruck, UnknownName, UnknownValue
from curbdesk.puzzles import Puzzle
from curbdesk.rings import Ring
from curbdesk.roots import clashes, least_clash, least_roots
from curbdesk.sums import Sum
from curbdesk.tables import Table
from curbdesk.unlike import Unlike
from tests.support import DeskCase, random_assumptions, random_parts, seeded, slow_settled


def pair_puzzle():
    return Puzzle([("x", [1, 2]), ("y", [1, 2]), ("z", [1, 2])], [("a", Unlike(["x", "y"]))])


def slow_clashes(domains, rules, assumptions):
    return any(not side for side in slow_settled(domains, rules, assumptions).values())


def slow_least(entries, suffice):
    """Leave out entries from the last to the first, word by word as point 30 says."""
    out = []
    for place in reversed(range(len(entries))):
        if suffice([entry for k, entry in enumerate(entries) if k != place and k not in out]):
            out.append(place)
    return [entry for k, entry in enumerate(entries) if k not in out]


class ClashesTest(DeskCase):
    def test_ordinary(self):
        puzzle = pair_puzzle()
        self.assertIs(self.ask(clashes, puzzle, []), False)
        self.assertIs(self.ask(clashes, puzzle, [("x", [1]), ("y", [1])]), True)
        self.assertIs(self.ask(clashes, puzzle, [("x", [1]), ("y", [1, 2])]), False)
        self.assertIs(self.ask(clashes, puzzle, [("x", [1]), ("x", [2])]), True)
        self.assertIs(self.ask(clashes, puzzle, [("z", [])]), True)

    def test_without_names(self):
        self.assertIs(self.ask(clashes, Puzzle([], []), []), False)
        self.assertIs(self.ask(clashes, Puzzle([("x", [])], []), []), True)
        self.assertIs(self.ask(clashes, Puzzle([("x", [1])], []), []), False)

    def test_errors(self):
        puzzle = pair_puzzle()
        for function in (clashes, least_clash):
            self.fails(UnknownName, {"name": "w"}, function, puzzle, [("x", [1]), ("w", [1]), ("x", [7])])
            self.fails(UnknownValue, {"name": "x", "value": 0}, function, puzzle, [("x", [0, 7]), ("w", [1])])

    def test_random(self):
        source = seeded(83)
        found = [0, 0]
        for _ in range(250):
            domains, rules = random_parts(source, least=source.choice([0, 1, 1, 1]))
            assumptions = random_assumptions(source, domains, 4)
            expected = slow_clashes(domains, rules, assumptions)
            found[expected] += 1
            self.assertIs(self.ask(clashes, Puzzle(domains, rules), assumptions), expected)
        self.assertGreater(min(found), 50)


class LeastClashTest(DeskCase):
    def test_example(self):
        assumptions = [("x", [1]), ("z", [2]), ("y", [1])]
        result = self.ask(least_clash, pair_puzzle(), assumptions)
        self.assertEqual(result, [("x", [1]), ("y", [1])])
        self.assertEqual([type(entry) for entry in result], [tuple, tuple])

    def test_from_the_last_one(self):
        puzzle = pair_puzzle()
        assumptions = [("x", [1]), ("y", [1]), ("x", [1]), ("y", [1])]
        self.assertEqual(self.ask(least_clash, puzzle, assumptions), [("x", [1]), ("y", [1])])
        assumptions = [("x", [1]), ("x", [2]), ("y", [1])]
        self.assertEqual(self.ask(least_clash, puzzle, assumptions), [("x", [1]), ("x", [2])])
        assumptions = [("z", []), ("x", [1]), ("y", [1])]
        self.assertEqual(self.ask(least_clash, puzzle, assumptions), [("z", [])])

    def test_assumptions_that_say_nothing(self):
        assumptions = [("z", [1, 2]), ("x", [1]), ("x", [1, 2]), ("y", [1]), ("z", [1])]
        self.assertEqual(self.ask(least_clash, pair_puzzle(), assumptions), [("x", [1]), ("y", [1])])

    def test_nothing_is_needed(self):
        puzzle = Puzzle([("x", [1, 2]), ("y", [])], [])
        self.assertEqual(self.ask(least_clash, puzzle, [("x", [1])]), [])
        self.assertEqual(self.ask(least_clash, puzzle, []), [])

    def test_no_clash(self):
        self.fails(NoClash, {}, least_clash, pair_puzzle(), [])
        self.fails(NoClash, {}, least_clash, pair_puzzle(), [("x", [1]), ("y", [2])])
        self.fails(NoClash, {}, least_clash, Puzzle([], []), [])

    def test_nothing_is_shared(self):
        puzzle = pair_puzzle()
        side = [1]
        assumptions = [("x", side), ("y", side)]
        result = least_clash(puzzle, assumptions)
        result[0][1].append(2)
        result.append(("z", [1]))
        self.assertEqual(assumptions, [("x", [1]), ("y", [1])])
        self.assertEqual(self.ask(least_clash, puzzle, assumptions), [("x", [1]), ("y", [1])])

    def test_random(self):
        source = seeded(84)
        found = [0, 0]
        for _ in range(350):
            domains, rules = random_parts(source, least=source.choice([0, 1, 1, 1, 1]))
            assumptions = random_assumptions(source, domains, 6)
            puzzle = Puzzle(domains, rules)
            clash = slow_clashes(domains, rules, assumptions)
            found[clash] += 1
            if clash:
                expected = slow_least(assumptions, lambda some: slow_clashes(domains, rules, some))
                self.assertEqual(self.ask(least_clash, puzzle, assumptions), expected)
            else:
                self.fails(NoClash, {}, least_clash, puzzle, assumptions)
        self.assertGreater(min(found), 70)

    def test_full_size(self):
        names = [f"n{number}" for number in range(8)]
        rules = [(f"u{k}", Unlike(names)) for k in range(8)]
        rules.extend((f"o{k}", Ring([(one, other, -1)])) for k, (one, other) in enumerate(zip(names, names[1:])))
        rules.append(("s", Sum([(10 ** 5 + 3 ** k, name) for k, name in enumerate(names[:3])], low=0)))
        puzzle = Puzzle([(name, list(range(9))) for name in names], rules)
        assumptions = [(name, [value for value in range(9) if value != 8]) for name in names] * 2
        self.assertIs(self.ask(clashes, puzzle, assumptions), False)
        assumptions = [(name, [value for value in range(9) if value not in (4, 8)]) for name in names] * 2
        # If the last name is at most 7, then the names are 0, 1 and so on, and n4 would be 4.
        self.assertEqual(self.ask(least_clash, puzzle, assumptions), [assumptions[4], assumptions[7]])


class LeastRootsTest(DeskCase):
    def test_ordinary(self):
        puzzle = pair_puzzle()
        assumptions = [("z", [1]), ("x", [1]), ("y", [1, 2])]
        self.assertEqual(self.ask(least_roots, puzzle, assumptions, "y", 1), [("x", [1])])
        self.assertEqual(self.ask(least_roots, puzzle, assumptions, "z", 2), [("z", [1])])
        self.assertEqual(self.ask(least_roots, puzzle, assumptions, "x", 2), [("x", [1])])
        self.fails(NotStruck, {"name": "y", "value": 2}, least_roots, puzzle, assumptions, "y", 2)

    def test_clash(self):
        puzzle = pair_puzzle()
        assumptions = [("y", [1]), ("x", [1])]
        self.assertEqual(self.ask(least_roots, puzzle, assumptions, "x", 1), [("y", [1])])
        self.assertEqual(self.ask(least_roots, puzzle, assumptions, "z", 1), assumptions)
        empty = Puzzle([("x", [1, 2]), ("y", [])], [])
        self.assertEqual(self.ask(least_roots, empty, [("x", [1])], "x", 1), [])

    def test_from_the_last_one(self):
        assumptions = [("x", [1]), ("z", [1]), ("y", [2]), ("x", [1])]
        self.assertEqual(self.ask(least_roots, pair_puzzle(), assumptions, "x", 2), [("x", [1])])
        self.assertEqual(self.ask(least_roots, pair_puzzle(), assumptions[1:], "x", 2), [("y", [2])])

    def test_struck_without_assumptions(self):
        puzzle = Puzzle([("x", [1, 2])], [("t", Table(["x"], [(2,)]))])
        self.assertEqual(self.ask(least_roots, puzzle, [], "x", 1), [])
        self.assertEqual(self.ask(least_roots, puzzle, [("x", [2])], "x", 1), [])

    def test_errors(self):
        puzzle = pair_puzzle()
        wrong = [("x", [1]), ("w", [1]), ("x", [7])]
        self.fails(UnknownName, {"name": "w"}, least_roots, puzzle, wrong, "v", 9)
        self.fails(UnknownValue, {"name": "x", "value": 7}, least_roots, puzzle, [("x", [1, 7])], "v", 9)
        self.fails(UnknownName, {"name": "v"}, least_roots, puzzle, [("x", [1])], "v", 9)
        self.fails(UnknownValue, {"name": "x", "value": 9}, least_roots, puzzle, [("x", [1])], "x", 9)
        self.fails(NotStruck, {"name": "x", "value": 1}, least_roots, puzzle, [("x", [1])], "x", 1)
        self.fails(UnknownName, {"name": "x"}, least_roots, Puzzle([], []), [], "x", 1)

    def test_random(self):
        source = seeded(85)
        found = [0, 0]
        for _ in range(350):
            domains, rules = random_parts(source)
            assumptions = random_assumptions(source, domains, 5)
            puzzle = Puzzle(domains, rules)
            name, values = source.choice(domains)
            value = source.choice(values)

            def lacks(some):
                return value not in slow_settled(domains, rules, some)[name]

            found[lacks(assumptions)] += 1
            if lacks(assumptions):
                expected = slow_least(assumptions, lacks)
                self.assertEqual(self.ask(least_roots, puzzle, assumptions, name, value), expected)
            else:
                attributes = {"name": name, "value": value}
                self.fails(NotStruck, attributes, least_roots, puzzle, assumptions, name, value)
        self.assertGreater(min(found), 70)


if __name__ == "__main__":
    unittest.main()
