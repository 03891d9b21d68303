import unittest

from curbdesk.answers import all_answers, first_answer
from curbdesk.bans import Ban
from curbdesk.errors import BadOrder
from curbdesk.orders import in_order, precedes
from curbdesk.puzzles import Puzzle
from curbdesk.sums import Sum
from curbdesk.tables import Table
from curbdesk.unlike import Unlike
from tests.plain_search import PlainSearch, SearchCase, check_lines, found, random_ways
from tests.support import hard_parts, random_parts, seeded, slow_answers

AIMS = {"first": first_answer, "all": all_answers}


def example():
    table = Table(["x", "y"], [(1, 1), (1, 2), (2, 2)])
    return Puzzle([("x", [1, 2]), ("y", [1, 2])], [("a", Unlike(["x", "y"])), ("b", table)])


class AnswersCase(SearchCase):
    def check_search(self, domains, rules, aim, **named):
        """Compare a search with the plain one, and check its lines."""
        puzzle = Puzzle(domains, rules)
        result = self.search(AIMS[aim], puzzle, **named)
        plain = PlainSearch(domains, rules, aim, **named)
        self.assertEqual(found(result), found(plain))
        check_lines(self, puzzle, result)
        return result


class FirstAnswerTest(AnswersCase):
    def test_ordinary(self):
        result = self.search(first_answer, example())
        self.assertEqual(found(result), ([{"x": 1, "y": 2}], False, [], [], [("decide", "x", 1), ("answer", 1)]))
        check_lines(self, example(), result)

    def test_no_answer(self):
        puzzle = Puzzle([("x", [1, 2]), ("y", [1, 2]), ("z", [1, 2])],
                        [(key, Unlike(list(key))) for key in ("xy", "yz", "xz")])
        events = [("decide", "x", 1), ("nogood", 1), ("back", 0), ("nogood", 2)]
        result = self.search(first_answer, puzzle)
        self.assertEqual(found(result), ([], True, [], [[("x", 1)], []], events))
        check_lines(self, puzzle, result)

    def test_without_names(self):
        result = self.search(first_answer, Puzzle([], []))
        self.assertEqual(found(result), ([{}], False, [], [], [("answer", 1)]))
        self.assertEqual(result.lines, [("answer", {})])

    def test_without_decisions(self):
        puzzle = Puzzle([("x", [2])], [])
        self.assertEqual(found(self.search(first_answer, puzzle)), ([{"x": 2}], False, [], [], [("answer", 1)]))

    def test_empty_domain(self):
        for domains in ([("x", [])], [("y", [1, 2]), ("x", [])]):
            for learn in (True, False):
                result = self.search(first_answer, Puzzle(domains, []), learn=learn)
                self.assertEqual(found(result), ([], True, [], [[]], [("nogood", 1)]))
                self.assertEqual(result.lines, [("void", {}, "x")])

    def test_first_in_the_order(self):
        source = seeded(91)
        for _ in range(120):
            domains, rules = random_parts(source, least=source.choice([0, 1, 1, 1, 1]))
            named = random_ways(source, [name for name, _ in domains])
            answers = slow_answers(domains, rules)
            order = named["order"] or [name for name, _ in domains]
            expected = in_order(answers, order, greatest_first=named["greatest_first"])[:1]
            result = first_answer(Puzzle(domains, rules), **named)
            self.assertEqual(result.answers, expected)
            self.assertIs(result.closed, not answers)


class AllAnswersTest(AnswersCase):
    def test_example(self):
        result = self.search(all_answers, example())
        self.assertEqual(result.events, [("decide", "x", 1), ("answer", 1), ("back", 0), ("nogood", 1)])
        self.assertEqual(found(result)[:4], ([{"x": 1, "y": 2}], True, [], [[]]))
        check_lines(self, example(), result)

    def test_without_rules(self):
        puzzle = Puzzle([("y", [1, 2]), ("x", [5, 4])], [])
        result = self.search(all_answers, puzzle)
        answers = [{"y": 1, "x": 4}, {"y": 1, "x": 5}, {"y": 2, "x": 4}, {"y": 2, "x": 5}]
        events = [
            ("decide", "y", 1), ("decide", "x", 4), ("answer", 1), ("back", 1), ("answer", 2), ("back", 0),
            ("decide", "x", 4), ("answer", 3), ("back", 0), ("answer", 4),
        ]
        self.assertEqual(found(result), (answers, True, [], [], events))
        check_lines(self, puzzle, result)

    def test_without_names(self):
        result = self.search(all_answers, Puzzle([], []))
        self.assertEqual(found(result), ([{}], True, [], [], [("answer", 1)]))
        check_lines(self, Puzzle([], []), result)

    def test_without_decisions(self):
        puzzle = Puzzle([("x", [2, 3]), ("y", [1])], [("t", Table(["x"], [(3,)]))])
        result = self.search(all_answers, puzzle)
        self.assertEqual(found(result), ([{"x": 3, "y": 1}], True, [], [], [("answer", 1)]))
        check_lines(self, puzzle, result)

    def test_empty_domain(self):
        result = self.search(all_answers, Puzzle([("y", [1, 2]), ("x", [])], []))
        self.assertEqual(found(result), ([], True, [], [[]], [("nogood", 1)]))

    def test_all_in_the_order(self):
        source = seeded(92)
        for _ in range(100):
            domains, rules = random_parts(source, 3, least=source.choice([0, 1, 1, 1, 1]))
            named = random_ways(source, [name for name, _ in domains])
            order = named["order"] or [name for name, _ in domains]
            expected = in_order(slow_answers(domains, rules), order, greatest_first=named["greatest_first"])
            result = all_answers(Puzzle(domains, rules), **named)
            self.assertEqual(result.answers, expected)
            self.assertIs(result.closed, True)
            for one, other in zip(expected, expected[1:]):
                self.assertTrue(precedes(one, other, order, greatest_first=named["greatest_first"]))


class StepsTest(AnswersCase):
    """What happens in which order, and what is learned."""

    def three_unlike(self):
        """Return a puzzle with no answer that rules alone do not settle: z is free, and w, x, y have two values."""
        domains = [("w", [1, 2]), ("z", [1, 2]), ("x", [1, 2]), ("y", [1, 2])]
        return domains, [("a", Unlike(["w", "x"])), ("b", Unlike(["x", "y"])), ("c", Unlike(["w", "y"]))]

    def test_learn(self):
        domains, rules = self.three_unlike()
        order = ["z", "w", "x", "y"]
        result = self.check_search(domains, rules, "first", order=order)
        self.assertEqual(result.nogoods, [[("w", 1)], []])
        self.assertEqual(result.events, [
            ("decide", "z", 1), ("decide", "w", 1), ("nogood", 1), ("back", 0), ("nogood", 2)])
        result = self.check_search(domains, rules, "first", order=order, learn=False)
        self.assertEqual(result.nogoods, [[("z", 1), ("w", 1)], [("z", 1)], [("w", 1)], []])
        self.assertEqual(result.events, [
            ("decide", "z", 1), ("decide", "w", 1), ("nogood", 1), ("back", 1), ("nogood", 2), ("back", 0),
            ("decide", "w", 1), ("nogood", 3), ("back", 0), ("nogood", 4)])

    def test_back_to_the_last_but_one(self):
        """The no-good leaves out a decision in between, so the search goes back behind it."""
        domains = [(name, [0, 1]) for name in "abcd"]
        rules = [("r", Ban(["a", "c", "d"], [(0, 0, 0), (0, 0, 1)]))]
        result = self.check_search(domains, rules, "first", order=["a", "b", "c", "d"])
        self.assertEqual(result.nogoods, [])
        rules = [("r", Ban(["a", "c", "d"], [(0, 0, 0)])), ("s", Ban(["a", "c", "d"], [(0, 0, 1)]))]
        result = self.check_search(domains, rules, "first", order=["a", "b", "c", "d"])
        self.assertEqual(result.nogoods, [[("a", 0), ("c", 0)]])
        self.assertEqual(result.events[:5], [
            ("decide", "a", 0), ("decide", "b", 0), ("decide", "c", 0), ("nogood", 1), ("back", 1)])
        result = self.check_search(domains, rules, "first", order=["a", "b", "c", "d"], learn=False)
        self.assertEqual(result.nogoods, [[("a", 0), ("b", 0), ("c", 0)]])
        self.assertEqual(result.events[3:5], [("nogood", 1), ("back", 2)])

    def test_restart(self):
        domains = [(name, [0, 1]) for name in "abcd"]
        rules = [("r", Ban(["a", "c", "d"], [(0, 0, 0)])), ("s", Ban(["a", "c", "d"], [(0, 0, 1)]))]
        result = self.check_search(domains, rules, "all", restart_after=1)
        self.assertEqual(result.events[3:5], [("nogood", 1), ("back", 0)])
        result = self.check_search(domains, rules, "all", restart_after=2)
        self.assertEqual(result.events[3:5], [("nogood", 1), ("back", 1)])
        result = self.check_search(domains, rules, "all", restart_after=10 ** 12)
        self.assertEqual(result.events[3:5], [("nogood", 1), ("back", 1)])

    def test_greatest_first(self):
        result = self.check_search([("x", [1, 2, 3]), ("y", [1, 2])], [], "first", greatest_first=True)
        self.assertEqual(result.events, [("decide", "x", 3), ("decide", "y", 2), ("answer", 1)])

    def test_order(self):
        result = self.check_search([("x", [1, 2, 3]), ("y", [1, 2])], [], "first", order=["y", "x"])
        self.assertEqual(result.events, [("decide", "y", 1), ("decide", "x", 1), ("answer", 1)])

    def test_bad_orders(self):
        puzzle = example()
        for order in ([], ["x"], ["x", "y", "x"], ["x", "z"], ["x", "y", "z"], ["x", "x"]):
            for function in (first_answer, all_answers):
                self.fails(BadOrder, {"names": tuple(order)}, function, puzzle, order=order)
        self.fails(BadOrder, {"names": ("x",)}, first_answer, Puzzle([], []), order=["x"])
        self.assertEqual(first_answer(Puzzle([], []), order=[]).answers, [{}])

    def test_by_keyword_alone(self):
        for function in (first_answer, all_answers):
            with self.assertRaises(TypeError):
                function(example(), ["x", "y"])

    def test_a_bar_whose_names_all_have_its_values(self):
        """The table leaves the bar's values to both of its names at once, before the bar can strike one."""
        domains = [(name, [1, 2]) for name in "zxyw"]
        bans = [("b", Ban(["x", "y", "w"], [(1, 1, 1)])), ("c", Ban(["x", "y", "w"], [(1, 1, 2)]))]
        table = Table(["z", "x", "y"], [(1, 1, 1), (1, 1, 2), (1, 2, 1), (1, 2, 2), (2, 1, 1)])
        for named in ({}, {"learn": False}, {"restart_after": 1}):
            result = self.check_search(domains, bans + [("t", table)], "all", **named)
            self.assertEqual(len(result.answers), 6)
        self.assertIn([("x", 1), ("y", 1)], result.nogoods)

    def test_random(self):
        source = seeded(93)
        for _ in range(150):
            domains, rules = random_parts(source, 4, 7, least=source.choice([0, 1, 2, 2, 2, 2]))
            named = random_ways(source, [name for name, _ in domains])
            self.check_search(domains, rules, source.choice(["first", "all"]), **named)

    def test_random_hard(self):
        """Much is learned, and the search goes back over several decisions."""
        source = seeded(94)
        counts = {}
        for _ in range(50):
            domains, rules = hard_parts(source)
            for aim in ("first", "all"):
                named = random_ways(source, [name for name, _ in domains])
                result = self.check_search(domains, rules, aim, **named)
                for nogood in result.nogoods:
                    counts[aim, len(nogood)] = counts.get((aim, len(nogood)), 0) + 1
        for aim in ("first", "all"):
            for length in (0, 1, 2, 3):
                self.assertGreater(counts[aim, length], 0, counts)

    def test_nogoods_are_part_of_no_answer(self):
        source = seeded(95)
        for _ in range(60):
            domains, rules = hard_parts(source)
            named = random_ways(source, [name for name, _ in domains])
            answers = slow_answers(domains, rules)
            result = all_answers(Puzzle(domains, rules), **named)
            told = 0
            for event in result.events:
                told += event[0] == "answer"
                if event[0] == "nogood":
                    nogood = result.nogoods[event[1] - 1]
                    for values in answers:
                        if values not in result.answers[:told]:
                            self.assertFalse(all(values[name] == value for name, value in nogood))


class SizeTest(AnswersCase):
    def test_many_answers(self):
        puzzle = Puzzle([(name, list(range(8))) for name in "abc"], [])
        result = all_answers(puzzle)
        self.assertEqual(len(result.answers), 512)
        check_lines(self, puzzle, result)

    def test_many_names(self):
        names = list("abcdefgh")
        domains = [(name, [0, 1]) for name in names] + [("i", [0, 1])]
        even = [[number >> place & 1 for place in range(6)] for number in range(64)]
        even = [row + [sum(row) % 2] for row in even]
        odd = [row[:6] + [1 - row[6]] for row in even]
        rules = [(f"e{k}", Table(names[:7], even)) for k in range(15)] + [("o", Table(names[:7], odd))]
        for learn in (True, False):
            for puzzle in (Puzzle(domains, rules), Puzzle(domains, rules[:-1])):
                result = all_answers(puzzle, learn=learn, restart_after=0 if learn else 1)
                self.assertEqual(len(result.answers), 0 if "o" in puzzle.rule_keys else 256)
                check_lines(self, puzzle, result)

    def test_many_sums(self):
        domains = [(name, [0, 1, 2, 3]) for name in "abcd"]
        source = seeded(96)
        rules = [(f"s{k}", Sum([(source.randint(-9, 9), name) for name in "abcd"], low=-20)) for k in range(16)]
        puzzle = Puzzle(domains, rules)
        for learn in (True, False):
            result = all_answers(puzzle, learn=learn)
            self.assertEqual(result.answers, slow_answers(domains, rules))
            check_lines(self, puzzle, result)


if __name__ == "__main__":
    unittest.main()
