import unittest

from curbdesk.best import best_answer
from curbdesk.errors import BadOrder, RepeatedName, UnknownName
from curbdesk.orders import in_order
from curbdesk.puzzles import Puzzle
from curbdesk.rings import Ring
from curbdesk.sums import Sum
from curbdesk.tables import Table
from curbdesk.unlike import Unlike
from curbdesk.worths import worth_of
from tests.plain_search import PlainSearch, SearchCase, check_lines, found, random_ways
from tests.support import hard_parts, random_parts, seeded, slow_answers


def small_puzzle():
    return Puzzle([("x", [1, 2, 3]), ("y", [1, 2, 3])], [("a", Unlike(["x", "y"]))])


def told_answers(answers, worth, order, *, greatest, greatest_first):
    """Return the answers that are better than every answer that precedes them in the order."""
    told = []
    for values in in_order(answers, order, greatest_first=greatest_first):
        worths = [worth_of(worth, other) for other in told]
        mine = worth_of(worth, values)
        if all(mine > other if greatest else mine < other for other in worths):
            told.append(values)
    return told


class BestAnswerTest(SearchCase):
    def check_best(self, domains, rules, worth, **named):
        """Compare a search with the plain one, and check its answers and its lines."""
        puzzle = Puzzle(domains, rules)
        result = self.search(best_answer, puzzle, worth, **named)
        self.assertEqual(found(result), found(PlainSearch(domains, rules, "best", worth=worth, **named)))
        greatest = named.get("greatest", False)
        check_lines(self, puzzle, result, worth=worth, greatest=greatest)
        self.assertIs(result.closed, True)
        order = named.get("order") or [name for name, _ in domains]
        expected = told_answers(slow_answers(domains, rules), worth, order, greatest=greatest,
                                greatest_first=named.get("greatest_first", False))
        self.assertEqual(result.answers, expected)
        self.assertEqual(result.worths, [worth_of(worth, values) for values in expected])
        return result

    def test_least(self):
        worth = [(-1, "x"), (2, "y")]
        result = self.search(best_answer, small_puzzle(), worth)
        self.assertEqual(result.answers, [{"x": 1, "y": 2}, {"x": 2, "y": 1}, {"x": 3, "y": 1}])
        self.assertEqual(result.worths, [3, 0, -1])
        self.assertIs(result.closed, True)
        check_lines(self, small_puzzle(), result, worth=worth)

    def test_greatest(self):
        worth = [(-1, "x"), (2, "y")]
        result = self.search(best_answer, small_puzzle(), worth, greatest=True)
        self.assertEqual(result.answers, [{"x": 1, "y": 2}, {"x": 1, "y": 3}])
        self.assertEqual(result.worths, [3, 5])
        check_lines(self, small_puzzle(), result, worth=worth, greatest=True)

    def test_greatest_first_speaks_of_the_values_alone(self):
        worth = [(1, "x"), (1, "y")]
        result = self.search(best_answer, small_puzzle(), worth, greatest_first=True)
        self.assertEqual(result.answers, [{"x": 3, "y": 2}, {"x": 3, "y": 1}, {"x": 2, "y": 1}])
        self.assertEqual(result.worths, [5, 4, 3])
        result = self.search(best_answer, small_puzzle(), worth, greatest_first=True, greatest=True)
        self.assertEqual(result.answers, [{"x": 3, "y": 2}])

    def test_the_next_thing_is_a_nogood(self):
        puzzle = Puzzle([("x", [1, 2]), ("y", [1, 2])], [])
        result = self.search(best_answer, puzzle, [(1, "y")], greatest=True)
        self.assertEqual(result.events, [
            ("decide", "x", 1), ("decide", "y", 1), ("answer", 1), ("nogood", 1), ("back", 0),
            ("decide", "x", 1), ("answer", 2), ("nogood", 2)])
        self.assertEqual(result.nogoods, [[("y", 1)], []])
        result = self.search(best_answer, puzzle, [(1, "y")], greatest=True, learn=False)
        self.assertEqual(result.nogoods, [[("x", 1), ("y", 1)], [("x", 1)], []])
        self.assertEqual(result.events[2:], [
            ("answer", 1), ("nogood", 1), ("back", 1), ("answer", 2), ("nogood", 2), ("back", 0), ("nogood", 3)])

    def test_without_decisions(self):
        puzzle = Puzzle([("x", [1, 2])], [("t", Table(["x"], [(2,)]))])
        result = self.search(best_answer, puzzle, [(3, "x")])
        self.assertEqual(found(result), ([{"x": 2}], True, [6], [[]], [("answer", 1), ("nogood", 1)]))
        check_lines(self, puzzle, result, worth=[(3, "x")])

    def test_worth_without_names(self):
        puzzle = small_puzzle()
        for greatest in (True, False):
            result = self.search(best_answer, puzzle, [], greatest=greatest)
            events = [("decide", "x", 1), ("decide", "y", 2), ("answer", 1), ("nogood", 1)]
            self.assertEqual(found(result), ([{"x": 1, "y": 2}], True, [0], [[]], events))
            check_lines(self, puzzle, result, worth=[], greatest=greatest)
            result = self.search(best_answer, puzzle, [], greatest=greatest, learn=False)
            self.assertEqual(result.nogoods, [[("x", 1), ("y", 2)], [("x", 1)], []])
            self.assertEqual(result.events[3:], [
                ("nogood", 1), ("back", 1), ("nogood", 2), ("back", 0), ("nogood", 3)])
            check_lines(self, puzzle, result, worth=[], greatest=greatest)

    def test_without_names(self):
        result = self.search(best_answer, Puzzle([], []), [])
        self.assertEqual(found(result), ([{}], True, [0], [[]], [("answer", 1), ("nogood", 1)]))
        check_lines(self, Puzzle([], []), result, worth=[])

    def test_no_answer(self):
        puzzle = Puzzle([("x", [1, 2]), ("y", [])], [])
        result = self.search(best_answer, puzzle, [(1, "x"), (1, "y")])
        self.assertEqual(found(result), ([], True, [], [[]], [("nogood", 1)]))
        check_lines(self, puzzle, result, worth=[(1, "x"), (1, "y")])

    def test_ties(self):
        puzzle = small_puzzle()
        for worth in ([(0, "x")], [(1, "x"), (1, "y")], [(0, "x"), (0, "y")]):
            result = self.search(best_answer, puzzle, worth)
            self.assertEqual(result.answers, [{"x": 1, "y": 2}])
            check_lines(self, puzzle, result, worth=worth)

    def test_errors(self):
        puzzle = small_puzzle()
        self.fails(UnknownName, {"name": "z"}, best_answer, puzzle, [(1, "x"), (1, "z"), (1, "x")], order=["x"])
        self.fails(RepeatedName, {"name": "x"}, best_answer, puzzle, [(1, "x"), (1, "x"), (1, "z")], order=["x"])
        self.fails(BadOrder, {"names": ("x",)}, best_answer, puzzle, [(1, "x")], order=["x"])
        with self.assertRaises(TypeError):
            best_answer(puzzle, [], True)

    def test_random(self):
        source = seeded(97)
        several = 0
        for number in range(170):
            domains, rules = hard_parts(source) if number < 50 else random_parts(source, least=source.choice([0, 1, 2]))
            names = [name for name, _ in domains]
            some = source.sample(names, source.randint(0, len(names)))
            worth = [(source.randint(-3, 3), name) for name in some]
            greatest = source.random() < 0.5
            result = self.check_best(domains, rules, worth, greatest=greatest, **random_ways(source, names))
            several += len(result.answers) > 1
        self.assertGreater(several, 25)

    def test_nogoods_are_part_of_no_better_answer(self):
        source = seeded(98)
        for _ in range(40):
            domains, rules = hard_parts(source)
            names = [name for name, _ in domains]
            worth = [(source.randint(-3, 3), name) for name in names]
            answers = slow_answers(domains, rules)
            result = best_answer(Puzzle(domains, rules), worth, **random_ways(source, names))
            told = 0
            for event in result.events:
                told += event[0] == "answer"
                if event[0] == "nogood":
                    nogood = result.nogoods[event[1] - 1]
                    for values in answers:
                        if all(worth_of(worth, values) < before for before in result.worths[:told]):
                            self.assertFalse(all(values[name] == value for name, value in nogood))

    def test_full_size(self):
        domains = [(name, [0, 1, 2, 3, 4, 5, 6, 7]) for name in "abc"]
        rules = [("u", Unlike(["a", "b", "c"])), ("r", Ring([("a", "b", 3), ("c", "a", 2)]))]
        rules.extend((f"s{k}", Sum([(k + 1, "a"), (1, "b"), (-1, "c")], low=-k)) for k in range(12))
        worth = [(10 ** 6 - 1, "a"), (-10 ** 6, "b"), (3, "c")]
        for named in ({}, {"learn": False}, {"restart_after": 1, "greatest": True}):
            self.check_best(domains, rules, worth, **named)
        wide = Puzzle([(name, [0, 1]) for name in "abcdefghi"], [])
        worth = [(2 ** place, name) for place, name in enumerate("abcdefgh")]
        for greatest in (False, True):
            result = best_answer(wide, worth, greatest=greatest)
            self.assertEqual(result.worths[-1], 255 if greatest else 0)
            check_lines(self, wide, result, worth=worth, greatest=greatest)


if __name__ == "__main__":
    unittest.main()
