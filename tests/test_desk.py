import copy
import unittest

from curbdesk.answers import all_answers, first_answer
from curbdesk.bans import Ban
from curbdesk.best import best_answer
from curbdesk.books import rests_on, without_key
from curbdesk.checker import check_log
from curbdesk.derive import closing_lines
from curbdesk.desk import Desk
from curbdesk.errors import (
    BadDeed, BadLine, BadOrder, HoldsAnswer, NothingToRedo, NothingToUndo, RepeatedKey, RepeatedName, UnknownKey,
    UnknownLine, UnknownName, UnknownStep, UnknownValue,
)
from curbdesk.puzzles import Puzzle
from curbdesk.rings import Ring
from curbdesk.settle import settled_box
from curbdesk.tables import Table
from curbdesk.unlike import Unlike
from tests.support import DeskCase, random_rule, seeded, spoil

CLIMB = ("climb", [0])


def less(one, other):
    return Ring([(one, other, -1)])


def small_desk():
    """Return a desk with x below y below z, and an empty book."""
    desk = Desk()
    for name in "xyz":
        desk.declare(name, [3, 1, 2, 4, 1])
    desk.post("a", less("x", "y"))
    desk.post("b", less("y", "z"))
    return desk


def state(desk):
    """Return what a desk is made of: its names, its rules and its book. The rules are the objects themselves."""
    puzzle = desk.puzzle()
    rules = [(key, puzzle.rule(key)) for key in puzzle.rule_keys]
    return copy.deepcopy(puzzle.domains()), rules, desk.book()


class DeskTestCase(DeskCase):
    def all(self, desk):
        return state(desk) + (desk.steps, desk.undone)

    def refuses(self, error, attributes, desk, deed):
        """Check that a deed raises the error, alone and in an attempt, and that the desk stays as it is."""
        before = self.all(desk)
        self.fails(error, attributes, getattr(desk, deed[0]), *deed[1:])
        self.assertEqual(self.all(desk), before)
        self.fails(error, attributes, desk.attempt, [deed])
        # With one more name the answer in the error would be another one.
        good = [] if error is HoldsAnswer else [("declare", "new1", [1])]
        self.fails(error, attributes, desk.attempt, good + [deed, ("attempt", [])])
        self.assertEqual(self.all(desk), before)

    def check_book(self, desk):
        check_log(desk.puzzle(), desk.book())


class StartTest(DeskTestCase):
    def test_new_desk(self):
        desk = Desk()
        self.assertEqual(self.all(desk), ([], [], [], 0, 0))
        self.assertEqual(self.ask(desk.box), {})
        self.assertEqual(self.ask(desk.book), [])
        self.assertIsInstance(desk.puzzle(), Puzzle)
        self.assertEqual(self.ask(desk.find_first), {})
        self.assertEqual(self.ask(desk.find_all), [{}])
        self.assertEqual(self.ask(desk.find_best, []), (0, {}))
        for function in (desk.undo, desk.redo):
            self.assertRaises((NothingToUndo, NothingToRedo), function)
        self.refuses(HoldsAnswer, {"answer": {}}, desk, ("derive", {}))

    def test_example(self):
        desk = Desk()
        desk.declare("x", [1, 2])
        desk.post("r", Table(["x"], [(1,)]))
        self.assertEqual(desk.resting(desk.derive({"x": [2]})), ["r"])


class DeclareTest(DeskTestCase):
    def test_ordinary(self):
        desk = Desk()
        self.assertIsNone(desk.declare("y", [2, 1, 2]))
        self.assertIsNone(desk.declare("x", []))
        self.assertEqual(self.all(desk), ([("y", [1, 2]), ("x", [])], [], [], 2, 0))

    def test_repeated(self):
        desk = small_desk()
        self.refuses(RepeatedName, {"name": "y"}, desk, ("declare", "y", [1]))

    def test_the_lines_stay(self):
        desk = small_desk()
        desk.derive({"y": [1]})
        book = desk.book()
        desk.declare("w", [])
        desk.declare("v", [1, 2])
        self.assertEqual(desk.book(), book)
        self.check_book(desk)
        self.assertEqual(desk.derive({"y": [1]}), len(book))


class RulesTest(DeskTestCase):
    def test_post(self):
        desk = small_desk()
        desk.derive({"y": [1]})
        book, rule = desk.book(), Unlike(["x", "z"])
        self.assertIsNone(desk.post("c", rule))
        puzzle = desk.puzzle()
        self.assertEqual(puzzle.rule_keys, ("a", "b", "c"))
        self.assertEqual(puzzle.rule("c").names, ("x", "z"))
        self.assertEqual(desk.book(), book)
        self.assertEqual((desk.steps, desk.undone), (7, 0))

    def test_errors_of_post(self):
        desk = small_desk()
        self.refuses(RepeatedKey, {"key": "a"}, desk, ("post", "a", Unlike(["w"])))
        self.refuses(UnknownName, {"name": "w"}, desk, ("post", "c", Unlike(["x", "w", "v"])))

    def test_exchange(self):
        desk = small_desk()
        desk.write(("rule", {"x": [4]}, "a", CLIMB))
        desk.write(("rule", {"z": [1]}, "b", CLIMB))
        desk.write(("join", {"x": [4], "z": [1]}, "x", 1, 2))
        desk.write(("join", {"z": [1], "x": [3]}, "x", 2, 2))
        rule = less("z", "x")
        self.assertIsNone(desk.exchange("a", rule))
        puzzle = desk.puzzle()
        self.assertEqual(puzzle.rule_keys, ("a", "b"))
        self.assertEqual(puzzle.rule("a").names, ("z", "x"))
        self.assertEqual(desk.book(), [
            ("rule", {"z": [1]}, "b", CLIMB), ("join", {"z": [1], "x": [3]}, "x", 1, 1)])
        self.assertEqual(desk.steps, 10)
        self.check_book(desk)

    def test_exchange_with_the_very_same_rule(self):
        desk = small_desk()
        desk.write(("rule", {"z": [1]}, "b", CLIMB))
        desk.write(("rule", {"x": [4]}, "a", CLIMB))
        desk.exchange("b", desk.puzzle().rule("b"))
        self.assertEqual(desk.book(), [("rule", {"x": [4]}, "a", CLIMB)])
        self.assertEqual(desk.steps, 8)
        desk.exchange("b", desk.puzzle().rule("b"))
        self.assertEqual(desk.book(), [("rule", {"x": [4]}, "a", CLIMB)])
        self.assertEqual(desk.steps, 9)

    def test_errors_of_exchange(self):
        desk = small_desk()
        desk.derive({"y": [1]})
        self.refuses(UnknownKey, {"key": "c"}, desk, ("exchange", "c", Unlike(["w"])))
        self.refuses(UnknownName, {"name": "w"}, desk, ("exchange", "a", Unlike(["x", "w", "v"])))

    def test_withdraw(self):
        desk = small_desk()
        desk.write(("rule", {"x": [4]}, "a", CLIMB))
        desk.write(("void", {"x": []}, "x"))
        desk.write(("rule", {"z": [1]}, "b", CLIMB))
        desk.write(("join", {"x": []}, "x", 2, 2))
        self.assertIsNone(desk.withdraw("a"))
        self.assertEqual(desk.puzzle().rule_keys, ("b",))
        self.assertEqual(desk.book(), [
            ("void", {"x": []}, "x"), ("rule", {"z": [1]}, "b", CLIMB), ("join", {"x": []}, "x", 1, 1)])
        self.refuses(UnknownKey, {"key": "a"}, desk, ("withdraw", "a"))
        desk.post("a", less("x", "z"))
        self.assertEqual(desk.puzzle().rule_keys, ("b", "a"))


class WriteTest(DeskTestCase):
    def test_ordinary(self):
        desk = small_desk()
        lines = [
            ("rule", {"x": [4]}, "a", CLIMB), ("void", {"y": [], "x": [1, 2, 3, 4]}, "y"),
            ("join", {"x": [4], "y": []}, "x", 1, 2),
        ]
        for number, line in enumerate(lines, start=1):
            kept = copy.deepcopy(line)
            result = desk.write(line)
            self.assertEqual(result, number)
            self.assertIs(type(result), int)
            self.assertEqual(line, kept)
        self.assertEqual(self.ask(desk.book), lines)
        self.assertEqual(desk.steps, 8)
        self.check_book(desk)

    def test_faults(self):
        desk = small_desk()
        desk.write(("rule", {"x": [4]}, "a", CLIMB))
        desk.write(("rule", {"y": [4]}, "b", CLIMB))
        for line, fault in (
            (("void", {"w": []}, "x"), "box"), (("void", {"x": [5]}, "w"), "box"), (("void", {"x": []}, "w"), "name"),
            (("void", {"x": []}, "y"), "void"), (("rule", {"w": []}, "c", CLIMB), "box"),
            (("rule", {}, "c", CLIMB), "key"), (("rule", {}, "a", CLIMB), "certificate"),
            (("join", {"x": [0]}, "w", 0, 0), "box"), (("join", {}, "w", 0, 0), "name"),
            (("join", {"x": [4]}, "x", 1, 3), "number"), (("join", {"x": [4]}, "x", 0, 1), "number"),
            (("join", {"x": [4]}, "x", -1, 1), "number"), (("join", {}, "x", 1, 2), "join"),
            (("join", {"x": [3]}, "x", 1, 1), "join"),
        ):
            self.refuses(BadLine, {"number": 3, "fault": fault}, desk, ("write", line))

    def test_kind(self):
        desk = small_desk()
        for number in (1, 2):
            for line in (("answer", {"x": 1, "y": 2, "z": 3}), ("answer", {}), ("told", {"w": [9]}, 1), ("told", {}, 0),
                         ("worse", {}), ("worse", {"x": [9]})):
                self.refuses(BadLine, {"number": number, "fault": "kind"}, desk, ("write", line))
            desk.write(("void", {"x": []}, "x"))

    def test_the_filled_forms_change(self):
        desk = Desk()
        desk.declare("x", [1])
        desk.post("t", Table(["x"], []))
        desk.write(("rule", {}, "t", ("blame", [])))
        desk.declare("y", [1, 2])
        self.assertEqual(desk.write(("join", {"y": [2]}, "y", 1, 1)), 2)
        self.assertEqual(desk.write(("join", {"y": [1, 2]}, "x", 1, 1)), 3)

    def test_nothing_is_shared(self):
        desk = small_desk()
        lines = [("rule", {"x": [4]}, "a", ("climb", [0])), ("void", {"x": []}, "x")]
        for line in lines:
            desk.write(line)
        spoil(lines)
        spoil(desk.book())
        self.assertEqual(desk.book(), [("rule", {"x": [4]}, "a", ("climb", [0])), ("void", {"x": []}, "x")])
        values = [1, 2]
        desk.declare("w", values)
        values.append(3)
        self.assertEqual(desk.puzzle().domain("w"), [1, 2])

    def test_many_lines(self):
        desk = small_desk()
        desk.write(("rule", {"x": [4]}, "a", CLIMB))
        for number in range(1, 1000):
            self.assertEqual(desk.write(("join", {"x": [4]}, "x", number, 1)), number + 1)
        self.assertEqual(desk.resting(1000), ["a"])
        desk.back_to(6)
        self.assertEqual(len(desk.book()), 1)


class DeriveTest(DeskTestCase):
    def test_ordinary(self):
        desk = small_desk()
        number = desk.derive({"y": [1]})
        book = desk.book()
        self.assertIs(type(number), int)
        self.assertEqual(number, len(book))
        self.assertEqual([line[1] == {"y": [1]} for line in book], [False] * (number - 1) + [True])
        self.assertEqual(desk.steps, 6)
        self.check_book(desk)
        again = desk.derive({"x": [2, 3], "z": [3]})
        self.assertEqual(desk.book()[:number], book)
        self.assertEqual(again, len(desk.book()))
        self.assertEqual([line[1] for line in desk.book()].index({"x": [2, 3], "z": [3]}), again - 1)
        self.assertEqual(desk.steps, 7)
        self.check_book(desk)

    def test_a_box_that_the_book_has(self):
        desk = small_desk()
        desk.write(("void", {"x": []}, "x"))
        desk.write(("rule", {"z": [1], "x": [2]}, "b", CLIMB))
        desk.write(("join", {"x": [2], "z": [1]}, "x", 2, 2))
        before = self.all(desk)
        self.assertEqual(desk.derive({"x": [2], "z": [1]}), 2)
        self.assertEqual(desk.derive({"x": []}), 1)
        self.assertEqual(self.all(desk), before)
        desk.undo()
        self.assertEqual(desk.derive({"x": []}), 1)
        self.assertEqual(desk.undone, 1)

    def test_boxes_are_compared_as_dictionaries(self):
        desk = small_desk()
        desk.write(("rule", {"z": [1]}, "b", CLIMB))
        number = desk.derive({"z": [1], "x": [1, 2, 3, 4]})
        self.assertGreater(number, 1)
        self.assertEqual(desk.book()[number - 1][1], {"z": [1], "x": [1, 2, 3, 4]})
        self.assertEqual(desk.derive({"z": [1]}), 1)

    def test_errors(self):
        desk = small_desk()
        desk.derive({"z": [1]})
        self.refuses(UnknownName, {"name": "w"}, desk, ("derive", {"x": [4], "w": [], "y": [9]}))
        self.refuses(UnknownValue, {"name": "x", "value": 0}, desk, ("derive", {"x": [0, 9], "w": []}))
        self.refuses(HoldsAnswer, {"answer": {"x": 1, "y": 2, "z": 4}}, desk, ("derive", {"z": [4]}))

    def test_again_behind_an_undo(self):
        desk = small_desk()
        desk.derive({"z": [2]})
        number = desk.derive({"x": [3]})
        book = desk.book()
        desk.undo()
        self.assertEqual(desk.derive({"x": [3]}), number)
        self.assertEqual(desk.book(), book)
        self.assertEqual(desk.undone, 0)

    def test_on_another_desk(self):
        one, other = small_desk(), Desk()
        other.attempt([("declare", "x", [1, 2, 3, 4]), ("declare", "y", [1, 2, 3, 4]), ("post", "a", Unlike(["x"]))])
        other.declare("z", [4, 3, 2, 1])
        other.post("b", Unlike(["z"]))
        other.exchange("a", less("x", "y"))
        other.write(("void", {"x": []}, "x"))
        other.undo()
        other.attempt([("exchange", "b", less("y", "z"))])
        for box in ({"x": [4]}, {"y": [1], "z": [1, 2]}, {"z": [2]}):
            self.assertEqual(one.derive(box), other.derive(box))
            self.assertEqual(one.book(), other.book())

    def test_the_box_is_copied(self):
        desk = small_desk()
        box = {"x": [4], "z": [1, 2]}
        desk.derive(box)
        spoil(box)
        self.assertEqual(desk.book()[-1][1], {"x": [4], "z": [1, 2]})

    def test_full_size(self):
        desk = Desk()
        for name in "abcdefg":
            desk.declare(name, [0, 1])
        desk.declare("h", [0, 1, 2, 3])
        even = [[number >> place & 1 for place in range(6)] for number in range(64)]
        even = [row + [sum(row) % 2] for row in even]
        for number in range(15):
            desk.post(f"e{number}", Table(list("abcdefg"), even))
        desk.post("o", Table(list("abcdefg"), [row[:6] + [1 - row[6]] for row in even]))
        self.assertEqual(desk.derive({}), len(desk.book()))
        self.check_book(desk)
        self.assertIn("o", desk.resting(len(desk.book())))
        self.assertIsNone(desk.find_first())
        desk.withdraw("o")
        self.assertEqual(len(desk.find_all()), 256)
        self.assertEqual(desk.find_best([(2 ** place, name) for place, name in enumerate("abcdefgh")], greatest=True)[0],
                         126 + 3 * 128)


class AttemptTest(DeskTestCase):
    def test_results(self):
        desk = Desk()
        deeds = [
            ("declare", "x", [2, 1]), ("post", "t", Table(["x"], [])), ("exchange", "t", Table(["x"], [(1,)])),
            ("write", ("rule", {"x": [2]}, "t", ("blame", ["x"]))), ("derive", {"x": [2]}), ("derive", {"x": []}),
            ("withdraw", "t"), ("write", ("void", {"x": []}, "x")),
        ]
        kept = copy.deepcopy([deed for deed in deeds if deed[0] not in ("post", "exchange")])
        result = desk.attempt(deeds)
        self.assertEqual(result, [None, None, None, 1, 1, 2, None, 2])
        self.assertEqual([deed for deed in deeds if deed[0] not in ("post", "exchange")], kept)
        self.assertEqual(self.all(desk), ([("x", [1, 2])], [], [("void", {"x": []}, "x")] * 2, 1, 0))
        desk.undo()
        self.assertEqual(self.all(desk), ([], [], [], 0, 1))
        desk.redo()
        self.assertEqual(self.all(desk), ([("x", [1, 2])], [], [("void", {"x": []}, "x")] * 2, 1, 0))

    def test_failing(self):
        desk = small_desk()
        desk.derive({"z": [1]})
        desk.undo()
        before = self.all(desk)
        good = [("declare", "w", [1]), ("post", "c", Unlike(["w", "x"])), ("derive", {"z": [2]}), ("withdraw", "a")]
        bad = ("write", ("void", {"x": [1]}, "x"))
        for place in (0, 2, 4):
            deeds = good[:place] + [bad] + good[place:]
            error = self.fails_at(desk, BadLine, deeds)
            self.assertEqual(error.fault, "void")
            self.assertEqual(self.all(desk), before)
        for deeds, error in (
            ([("declare", "x", [])], RepeatedName), ([("withdraw", "a"), ("withdraw", "a")], UnknownKey),
            ([("withdraw", "a"), ("exchange", "a", Unlike(["x"]))], UnknownKey),
            ([("declare", "v", [1]), ("post", "a", Unlike(["v"]))], RepeatedKey),
            ([("post", "c", Unlike(["w"])), ("declare", "w", [1])], UnknownName),
            ([("withdraw", "a"), ("withdraw", "b"), ("derive", {"z": [1]})], HoldsAnswer),
        ):
            self.fails_at(desk, error, deeds)
            self.assertEqual(self.all(desk), before)

    def fails_at(self, desk, error, deeds):
        with self.assertRaises(error) as caught:
            desk.attempt(deeds)
        self.assertIs(type(caught.exception), error)
        return caught.exception

    def test_bad_deeds(self):
        desk = small_desk()
        before = self.all(desk)
        good = ("declare", "w", [1])
        for word in ("attempt", "undo", "redo", "back_to", "puzzle", "", "Declare", "find_first", "box"):
            self.fails(BadDeed, {"position": 0}, desk.attempt, [(word, [])])
            self.fails(BadDeed, {"position": 1}, desk.attempt, [good, (word,), (word,)])
            self.fails(BadDeed, {"position": 2}, desk.attempt, [good, ("derive", {"x": []}), (word, good)])
            # Errors of earlier deeds come first, those of later ones do not.
            self.fails(RepeatedName, {"name": "w"}, desk.attempt, [good, good, (word, [])])
            self.fails(BadDeed, {"position": 1}, desk.attempt, [good, (word, []), good])
        self.assertEqual(self.all(desk), before)

    def test_without_deeds(self):
        desk = small_desk()
        self.assertEqual(desk.attempt([]), [])
        self.assertEqual(desk.steps, 5)
        desk.undo()
        self.assertEqual(desk.attempt([]), [])
        self.assertEqual((desk.steps, desk.undone), (4, 1))

    def test_deeds_that_are_no_steps(self):
        desk = small_desk()
        desk.write(("void", {"x": []}, "x"))
        desk.declare("w", [1])
        desk.undo()
        before = self.all(desk)
        self.assertEqual(desk.attempt([("derive", {"x": []})] * 3), [1, 1, 1])
        self.assertEqual(self.all(desk), before)
        self.assertEqual(desk.attempt([("derive", {"x": []}), ("derive", {"y": []}), ("derive", {"y": []})]), [1, 2, 2])
        self.assertEqual((desk.steps, desk.undone), (7, 0))

    def test_one_step(self):
        desk = small_desk()
        desk.attempt([("declare", f"n{number}", [1]) for number in range(60)])
        self.assertEqual(desk.steps, 6)
        desk.undo()
        self.assertEqual(desk.puzzle().names, ("x", "y", "z"))

    def test_nothing_is_shared(self):
        desk = small_desk()
        deeds = [("declare", "w", [1, 2]), ("write", ("void", {"x": []}, "x")), ("derive", {"z": [1]})]
        desk.attempt(deeds)
        before = self.all(desk)
        spoil(deeds)
        self.assertEqual(self.all(desk), before)


class StepsTest(DeskTestCase):
    def test_each_deed_is_a_step(self):
        desk = Desk()
        states = [self.all(desk)[:3]]
        for deed in (
            ("declare", "x", [1, 2]), ("declare", "y", []), ("post", "t", Table(["x"], [(1,)])), ("derive", {"x": [2]}),
            ("write", ("void", {"x": []}, "x")), ("exchange", "t", Table(["x"], [(1,)])),
            ("attempt", [("withdraw", "t"), ("post", "t", Unlike(["y", "x"]))]), ("withdraw", "t"),
        ):
            getattr(desk, deed[0])(*deed[1:])
            states.append(self.all(desk)[:3])
            self.assertEqual((desk.steps, desk.undone), (len(states) - 1, 0))
        for place in reversed(range(len(states) - 1)):
            self.assertIsNone(desk.undo())
            self.assertEqual(self.all(desk), states[place] + (place, len(states) - 1 - place))
        self.fails(NothingToUndo, {}, desk.undo)
        for place in range(1, len(states)):
            self.assertIsNone(desk.redo())
            self.assertEqual(self.all(desk), states[place] + (place, len(states) - 1 - place))
        self.fails(NothingToRedo, {}, desk.redo)
        for steps in (-1, 9, 100):
            self.fails(UnknownStep, {"number": steps}, desk.back_to, steps)
        for place in (8, 5, 5, 2, 0):
            self.assertIsNone(desk.back_to(place))
            self.assertEqual(self.all(desk), states[place] + (place, 8 - place))
        self.fails(UnknownStep, {"number": 1}, desk.back_to, 1)

    def test_a_new_step_drops_undone_ones(self):
        desk = small_desk()
        desk.back_to(3)
        self.assertEqual((desk.steps, desk.undone), (3, 2))
        desk.post("c", Unlike(["x"]))
        self.assertEqual((desk.steps, desk.undone), (4, 0))
        self.fails(NothingToRedo, {}, desk.redo)

    def test_what_is_no_step(self):
        desk = small_desk()
        desk.undo()
        before = self.all(desk)
        desk.puzzle()
        desk.box()
        desk.book()
        desk.find_first()
        desk.find_all()
        desk.find_best([(1, "x")])
        for deed in (("post", "a", Unlike(["x"])), ("withdraw", "b"), ("declare", "x", [])):
            with self.assertRaises((RepeatedKey, UnknownKey, RepeatedName)):
                getattr(desk, deed[0])(*deed[1:])
        self.assertEqual(self.all(desk), before)


class AnswersTest(DeskTestCase):
    def test_puzzle_and_box(self):
        desk = small_desk()
        puzzle = desk.puzzle()
        self.assertEqual(puzzle.domains(), [(name, [1, 2, 3, 4]) for name in "xyz"])
        self.assertEqual(self.ask(desk.box), {"x": [1, 2], "y": [2, 3], "z": [3, 4]})
        desk.withdraw("a")
        self.assertEqual(self.ask(desk.box), {"x": [1, 2, 3, 4], "y": [1, 2, 3], "z": [2, 3, 4]})
        # A puzzle that was returned before does not change.
        self.assertEqual(puzzle.rule_keys, ("a", "b"))
        desk.post("n", Table(["x"], []))
        self.assertEqual(self.ask(desk.box), {"x": [], "y": [], "z": []})

    def test_book_and_resting(self):
        desk = small_desk()
        desk.write(("rule", {"y": [4], "x": [1, 2, 3, 4]}, "b", CLIMB))
        desk.derive({"x": [3]})
        book = self.ask(desk.book)
        self.assertEqual(book[0], ("rule", {"y": [4], "x": [1, 2, 3, 4]}, "b", CLIMB))
        for number in range(1, len(book) + 1):
            self.assertEqual(self.ask(desk.resting, number), rests_on(book, number))
        self.assertEqual(desk.resting(len(book)), ["a", "b"])
        for number in (0, -1, len(book) + 1):
            self.fails(UnknownLine, {"number": number}, desk.resting, number)

    def test_find(self):
        desk = small_desk()
        puzzle, order = desk.puzzle(), ["z", "x", "y"]
        for named in ({}, {"order": order}, {"greatest_first": True}, {"order": order, "greatest_first": True}):
            self.assertEqual(self.ask(desk.find_first, **named), first_answer(puzzle, **named).answers[0])
            self.assertEqual(self.ask(desk.find_all, **named), all_answers(puzzle, **named).answers)
            for greatest in (False, True):
                worth = [(1, "x"), (-1, "z")]
                best = best_answer(puzzle, worth, greatest=greatest, **named)
                found = self.ask(desk.find_best, worth, greatest=greatest, **named)
                self.assertEqual(found, (best.worths[-1], best.answers[-1]))
                self.assertIs(type(found), tuple)
        self.assertEqual(desk.find_best([(1, "x"), (-1, "z")]), (-3, {"x": 1, "y": 2, "z": 4}))
        self.assertEqual(desk.find_first(), {"x": 1, "y": 2, "z": 3})
        self.assertEqual(len(desk.find_all()), 4)

    def test_find_without_answers(self):
        desk = small_desk()
        desk.post("c", less("z", "x"))
        self.assertIsNone(desk.find_first())
        self.assertEqual(self.ask(desk.find_all), [])
        self.assertIsNone(desk.find_best([(1, "x")]))

    def test_errors_of_find(self):
        desk = small_desk()
        wrong = {"order": ["x", "y"]}
        for function in (desk.find_first, desk.find_all):
            self.fails(BadOrder, {"names": ("x", "y")}, function, **wrong)
        self.fails(BadOrder, {"names": ("x", "y")}, desk.find_best, [(1, "x")], **wrong)
        self.fails(UnknownName, {"name": "w"}, desk.find_best, [(1, "x"), (1, "w"), (1, "x")], **wrong)
        self.fails(RepeatedName, {"name": "x"}, desk.find_best, [(1, "x"), (1, "x"), (1, "w")], **wrong)


class PlainDesk:
    """What the points 44 and 45 say, word by word: copies of all states."""

    def __init__(self):
        self.states, self.place = [([], [], [])], 0

    def now(self):
        return self.states[self.place]

    def puzzle(self):
        return Puzzle(*self.now()[:2])

    def push(self, domains, rules, book):
        self.states = self.states[:self.place + 1] + [(domains, rules, book)]
        self.place += 1

    def do(self, deed):
        domains, rules, book = self.now()
        word, rest = deed[0], deed[1:]
        if word == "declare":
            domains = domains + [(rest[0], sorted(set(rest[1])))]
        elif word == "post":
            rules = rules + [rest]
        elif word == "exchange":
            rules = [rest if key == rest[0] else (key, rule) for key, rule in rules]
            book = without_key(book, rest[0])
        elif word == "withdraw":
            rules = [(key, rule) for key, rule in rules if key != rest[0]]
            book = without_key(book, rest[0])
        else:
            book = book + [rest[0]]
        self.push(domains, rules, book)


class RandomTest(DeskTestCase):
    """Compare desks with plain ones, deed by deed."""

    def random_deed(self, source, plain):
        domains, rules, book = plain.now()
        names = [name for name, _ in domains]
        if len(names) < 2 or (len(names) < 4 and source.random() < 0.1):
            return ("declare", "abcd"[len(names)], source.sample(range(4), source.randint(2, 3)))
        keys = [key for key, _ in rules]
        free = [key for key in ("r", "s", "t", "u") if key not in keys]
        if free and source.random() < 0.3:
            return ("post", free[0], random_rule(source, names))
        if keys and source.random() < 0.2:
            return source.choice([("exchange", source.choice(keys), random_rule(source, names)),
                                  ("withdraw", source.choice(keys))])
        return ("derive", {name: [value for value in side if source.random() < 0.5] for name, side in domains})

    def test_random(self):
        source = seeded(109)
        lengths = gone = 0
        for _ in range(40):
            desk, plain = Desk(), PlainDesk()
            for _ in range(40):
                move = source.random()
                if move < 0.1 and plain.place > 0:
                    plain.place -= 1
                    desk.undo()
                elif move < 0.2 and plain.place < len(plain.states) - 1:
                    plain.place += 1
                    desk.redo()
                else:
                    before = len(desk.book())
                    self.do_both(source, desk, plain, self.random_deed(source, plain))
                    gone += len(desk.book()) < before
                self.assertEqual(self.all(desk), plain.now() + (plain.place, len(plain.states) - 1 - plain.place))
                self.check_book(desk)
                self.assertEqual(desk.box(), settled_box(plain.puzzle()))
            lengths += len(desk.book())
        self.assertGreater(lengths, 100)
        self.assertGreater(gone, 20)

    def do_both(self, source, desk, plain, deed):
        if deed[0] != "derive":
            plain.do(deed)
            self.assertIsNone(getattr(desk, deed[0])(*deed[1:]))
            return
        domains, rules, book = plain.now()
        boxes = [line[1] for line in book]
        try:
            closing_lines(plain.puzzle(), deed[1])
        except HoldsAnswer as error:
            self.fails(HoldsAnswer, {"answer": error.answer}, desk.derive, deed[1])
            return
        number = desk.derive(deed[1])
        if deed[1] in boxes:
            self.assertEqual(number, boxes.index(deed[1]) + 1)
            return
        lines = desk.book()
        self.assertEqual(lines[:len(book)], book)
        self.assertEqual([line[1] for line in lines].index(deed[1]) + 1, number)
        self.assertEqual(number, len(lines))
        plain.push(domains, rules, lines)


class TwoKeysTest(DeskTestCase):
    def test_one_rule_under_two_keys(self):
        desk = Desk()
        rule = Ban(["x"], [(1,), (2,)])
        desk.attempt([("declare", "x", [1, 2]), ("post", "p", rule), ("post", "q", rule)])
        desk.write(("rule", {}, "p", ("full", [0, 1])))
        desk.write(("rule", {}, "q", ("full", [1, 0])))
        desk.write(("join", {"x": [1, 2]}, "x", 1, 2))
        self.assertEqual(desk.resting(3), ["p", "q"])
        desk.withdraw("p")
        self.assertEqual(desk.book(), [("rule", {}, "q", ("full", [1, 0]))])
        self.check_book(desk)


if __name__ == "__main__":
    unittest.main()
