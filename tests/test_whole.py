"""What the document promises over the whole program: tests that take several modules together."""

import copy
import unittest

from curbdesk.answers import all_answers, first_answer
from curbdesk.bans import Ban
from curbdesk.best import best_answer
from curbdesk.books import pruned, renumbered, rests_on, without_key
from curbdesk.boxes import box_within, filled, holds
from curbdesk.checker import Checker, check_log
from curbdesk.cores import least_rules, widest_closed
from curbdesk.counts import Counts
from curbdesk.derive import clash_lines, closing_lines, strike_lines
from curbdesk.desk import Desk
from curbdesk.errors import BadLine
from curbdesk.joins import join_back
from curbdesk.notation import line_text, log_text, parse_line, parse_log
from curbdesk.plain import plain_answers
from curbdesk.puzzles import Puzzle
from curbdesk.reasons import least_reason, widest_bare
from curbdesk.rings import Ring
from curbdesk.roots import clashes, least_clash, least_roots
from curbdesk.settle import Settler, settled_box
from curbdesk.sums import Sum
from curbdesk.tables import Table
from curbdesk.unlike import Unlike
from tests.support import DeskCase, hard_parts, random_assumptions, random_parts, seeded, spoil


def random_puzzle(source):
    domains, rules = hard_parts(source) if source.random() < 0.4 else random_parts(source, 4, 6)
    return Puzzle(domains, rules)


def square_puzzle():
    """Return a puzzle with every kind of rule: three names of a row, and what they sum up to."""
    names = ["a", "b", "c"]
    rules = [
        ("unlike", Unlike(names)), ("order", Ring([("a", "c", -1)])), ("total", Sum([(1, name) for name in names], low=6)),
        ("table", Table(["a", "b"], [(1, 2), (2, 1), (2, 3), (3, 1)])), ("ban", Ban(["b", "c"], [(3, 3), (2, 3)])),
        ("counts", Counts(names, [(3, 0, 1), (1, 0, 1)])),
    ]
    return Puzzle([(name, [1, 2, 3]) for name in names], rules)


class LogTest(DeskCase):
    """Logs are written, put into text, parsed, checked, cut and put together."""

    def check_both_ways(self, puzzle, lines, **named):
        text = self.ask(log_text, lines)
        parsed = parse_log(text)
        self.assertEqual(parsed, lines)
        self.assertEqual(check_log(puzzle, parsed, **named), check_log(puzzle, lines, **named))
        for line in lines:
            self.assertEqual(parse_line(line_text(line)), line)
        return check_log(puzzle, parsed, **named)

    def test_searches(self):
        source = seeded(111)
        for _ in range(60):
            puzzle = random_puzzle(source)
            answers = plain_answers(puzzle)
            named = {"learn": source.random() < 0.5, "restart_after": source.choice([0, 1, 2])}
            result = all_answers(puzzle, **named)
            self.assertEqual(self.check_both_ways(puzzle, result.lines), (True, answers))
            result = first_answer(puzzle, **named)
            self.assertEqual(self.check_both_ways(puzzle, result.lines), (not answers, answers[:1]))
            worth = [(source.randint(-2, 2), name) for name in puzzle.names]
            greatest = source.random() < 0.5
            result = best_answer(puzzle, worth, greatest=greatest, **named)
            checked = self.check_both_ways(puzzle, result.lines, worth=worth, greatest=greatest)
            self.assertEqual(checked, (True, result.answers))

    def test_every_kind_of_rule(self):
        puzzle = square_puzzle()
        answers = plain_answers(puzzle)
        self.assertEqual(answers, [{"a": 2, "b": 1, "c": 3}])
        lines = all_answers(puzzle).lines
        self.assertEqual(self.check_both_ways(puzzle, lines), (True, answers))
        for key in puzzle.rule_keys:
            rule = puzzle.rule(key)
            for name, value in (("a", 1), ("a", 3), ("b", 2), ("c", 1)):
                if name in rule.names and value not in rule.supported({**puzzle.box(), name: [value]}, name):
                    self.check_both_ways(puzzle, strike_lines(puzzle, [], name, value))

    def test_a_text_with_a_wrong_line(self):
        """Each line of a log is needed to be what it is: changes are refused at their places or later."""
        puzzle = square_puzzle()
        lines = all_answers(puzzle).lines
        for number, line in enumerate(lines, start=1):
            if line[0] == "rule":
                wrong = lines[:number - 1] + [line[:2] + ("nobody",) + line[3:]] + lines[number:]
                self.fails(BadLine, {"number": number, "fault": "key"}, check_log, puzzle, wrong)
            if line[0] == "join":
                wrong = lines[:number - 1] + [line[:3] + (number, line[4])] + lines[number:]
                self.fails(BadLine, {"number": number, "fault": "number"}, check_log, puzzle, wrong)

    def test_logs_put_together(self):
        """Two clashes under x and under not x close the puzzle."""
        source = seeded(112)
        closed = 0
        for _ in range(200):
            puzzle = random_puzzle(source)
            name = puzzle.names[0]
            side = puzzle.domain(name)
            low, high = [(name, side[:1])], [(name, side[1:])]
            if side and clashes(puzzle, low) and clashes(puzzle, high):
                closed += 1
                first, second = clash_lines(puzzle, low), clash_lines(puzzle, high)
                lines = first + renumbered(second, len(first))
                lines.append(("join", {}, name, len(first), len(lines)))
                self.assertEqual(self.check_both_ways(puzzle, lines), (True, []))
                for key in rests_on(lines, len(lines)):
                    check_log(puzzle.without_rule(key), without_key(lines, key))
                check_log(puzzle, pruned(lines, len(lines)))
        self.assertGreater(closed, 10)

    def test_long_logs(self):
        puzzle = Puzzle([(name, list(range(8))) for name in "abc"], [("s", Sum([(1, "a"), (1, "b"), (1, "c")], low=9))])
        lines = all_answers(puzzle, learn=False).lines
        self.assertGreater(len(lines), 1000)
        self.assertEqual(self.check_both_ways(puzzle, lines), (True, plain_answers(puzzle)))
        shut = puzzle.with_rules([("t", Sum([(1, "a"), (1, "b"), (1, "c")], high=8))])
        lines = closing_lines(shut, {})
        self.assertEqual(self.check_both_ways(shut, lines), (True, []))
        self.assertEqual(rests_on(lines, len(lines)), ["s", "t"])
        check_log(shut.without_rule("s"), without_key(lines, "s"))


class ReasonTest(DeskCase):
    """Settlers give reasons, which are widened, joined and written into logs."""

    def test_trails(self):
        source = seeded(113)
        joined = 0
        for _ in range(150):
            puzzle = random_puzzle(source)
            settler = Settler(puzzle)
            assumptions = random_assumptions(source, puzzle.domains(), 3)
            for name, side in assumptions:
                settler.assume(name, side)
            settler.settle()
            trail = []
            for name, value, _ in settler.trail():
                key, reason = settler.reason(name, value)
                if key is not None:
                    rule = puzzle.rule(key)
                    self.assertTrue(rule.accepts(reason, rule.certificate(reason)))
                    wide = least_reason(rule, reason, name, value, limits=puzzle.box())
                    self.assertTrue(box_within(reason, wide))
                    self.assertEqual(widest_bare(rule, wide, limits={**puzzle.box(), name: [value]}), wide)
                    reason = source.choice([reason, wide])
                trail.append((name, value, reason))
            empty = [name for name in puzzle.names if all((name, value) in [strike[:2] for strike in trail]
                                                          for value in puzzle.domain(name))]
            if settler.clashed and empty:
                joined += self.check_back(puzzle, trail, empty[0])
        self.assertGreater(joined, 20)

    def check_back(self, puzzle, trail, name):
        box, positions = join_back(puzzle.domains(), trail, name)
        for values in plain_answers(puzzle, box=box):
            self.fail(f"the joined reasons hold an answer: {values}")
        assumed = {strike[:2] for strike in trail if strike[2] is None}
        for other, side in filled(box, puzzle.domains()).items():
            for value in puzzle.domain(other):
                self.assertTrue(value in side or (other, value) in assumed)
        return len(positions) > 0

    def test_roots_and_lines(self):
        source = seeded(114)
        for _ in range(100):
            puzzle = random_puzzle(source)
            assumptions = random_assumptions(source, puzzle.domains(), 4)
            if clashes(puzzle, assumptions):
                least = least_clash(puzzle, assumptions)
                lines = clash_lines(puzzle, least)
                check_log(puzzle, lines)
                wide = widest_closed(puzzle, lines[-1][1])
                self.assertEqual(check_log(puzzle, closing_lines(puzzle, wide)), (wide == {}, []))
            else:
                box = settled_box(puzzle, assumptions=assumptions)
                for name in puzzle.names:
                    for value in set(puzzle.domain(name)) - set(box[name]):
                        roots = least_roots(puzzle, assumptions, name, value)
                        check_log(puzzle, strike_lines(puzzle, roots, name, value))

    def test_least_rules(self):
        source = seeded(115)
        for _ in range(80):
            puzzle = random_puzzle(source)
            if not plain_answers(puzzle):
                keys = least_rules(puzzle, {})
                core = Puzzle(puzzle.domains(), [(key, puzzle.rule(key)) for key in keys])
                lines = closing_lines(core, {})
                self.assertEqual(rests_on(lines, len(lines)), sorted(keys))
                self.assertEqual(check_log(puzzle, lines), (True, []))


class SessionTest(DeskCase):
    def test_a_session(self):
        """A desk, its book as a text, and another desk that gets the book line by line."""
        puzzle = square_puzzle()
        desk, other = Desk(), Desk()
        for name, side in puzzle.domains():
            desk.declare(name, side)
            other.declare(name, side)
        for key in puzzle.rule_keys:
            desk.post(key, puzzle.rule(key))
            other.post(key, puzzle.rule(key))
        self.assertEqual(desk.find_all(), [{"a": 2, "b": 1, "c": 3}])
        for box in ({"a": [3]}, {"b": [2]}, {"a": [1]}, {"b": [2, 3]}, {"a": [1, 3]}):
            desk.derive(box)
        book = parse_log(log_text(desk.book()))
        for number, line in enumerate(book, start=1):
            self.assertEqual(other.write(line), number)
        self.assertEqual(other.book(), desk.book())
        checker = Checker(desk.puzzle())
        for number, line in enumerate(book, start=1):
            checker.read(line)
            self.assertEqual(checker.box_of(number), filled(line[1], puzzle.domains()))
        resting = other.resting(len(book))
        kept = without_key(book, resting[0])
        other.withdraw(resting[0])
        self.assertEqual(other.book(), kept)
        check_log(other.puzzle(), kept)
        other.undo()
        self.assertEqual(other.book(), book)
        self.assertFalse(holds(desk.book()[-1][1], desk.find_first()))

    def test_a_log_of_a_search_is_no_book(self):
        desk = Desk()
        desk.declare("x", [1, 2])
        for number, line in enumerate(all_answers(desk.puzzle()).lines):
            if line[0] in ("answer", "told"):
                self.fails(BadLine, {"number": 1, "fault": "kind"}, desk.write, line)


class SharingTest(DeskCase):
    """Rules and puzzles are used by many at once; what one is given or gives back does not reach another."""

    def test_results(self):
        puzzle = square_puzzle()
        before = copy.deepcopy([puzzle.domains(), plain_answers(puzzle), all_answers(puzzle).lines])
        for _ in range(2):
            result = all_answers(puzzle)
            spoil([result.answers, result.nogoods, result.events, result.lines, result.worths])
            spoil(closing_lines(puzzle, {"a": [1]}))
            spoil(clash_lines(puzzle, [("a", [1])]))
            spoil(widest_closed(puzzle, {"a": [1]}))
            spoil(least_rules(puzzle, {"a": [1]}))
            desk = Desk()
            for name, side in puzzle.domains():
                desk.declare(name, side)
            for key in puzzle.rule_keys:
                desk.post(key, puzzle.rule(key))
            desk.derive({"a": [1]})
            spoil([desk.book(), desk.find_all(), desk.find_first(), desk.box()])
            self.assertEqual([puzzle.domains(), plain_answers(puzzle), all_answers(puzzle).lines], before)


if __name__ == "__main__":
    unittest.main()
