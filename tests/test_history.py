import unittest

from curbdesk.errors import NothingToRedo, NothingToUndo, UnknownStep
from curbdesk.history import History
from tests.support import DeskCase, seeded


class PlainHistory:
    """A list of states and the place of the present one."""

    def __init__(self, start):
        self.states, self.place = [start], 0

    def push(self, state):
        self.states = self.states[:self.place + 1] + [state]
        self.place += 1

    def move(self, by):
        self.place += by
        return self.states[self.place]

    def all(self):
        return (self.states[self.place], self.place, len(self.states) - 1 - self.place)


class HistoryTest(DeskCase):
    def all(self, history):
        return (history.state, history.steps, history.undone)

    def pushed(self, *states):
        history = History(states[0])
        for state in states[1:]:
            self.assertIsNone(history.push(state))
        return history

    def test_start(self):
        history = History("a")
        self.assertEqual(self.all(history), ("a", 0, 0))
        self.fails(NothingToUndo, {}, history.undo)
        self.fails(NothingToRedo, {}, history.redo)
        self.assertEqual(history.back_to(0), "a")
        self.assertEqual(self.all(history), ("a", 0, 0))

    def test_undo_and_redo(self):
        history = self.pushed("a", "b", "c")
        self.assertEqual(self.all(history), ("c", 2, 0))
        self.fails(NothingToRedo, {}, history.redo)
        self.assertEqual(history.undo(), "b")
        self.assertEqual(self.all(history), ("b", 1, 1))
        self.assertEqual(history.undo(), "a")
        self.fails(NothingToUndo, {}, history.undo)
        self.assertEqual(self.all(history), ("a", 0, 2))
        self.assertEqual(history.redo(), "b")
        self.assertEqual(history.redo(), "c")
        self.fails(NothingToRedo, {}, history.redo)
        self.assertEqual(self.all(history), ("c", 2, 0))

    def test_push_drops_what_was_undone(self):
        history = self.pushed(1, 2, 3)
        history.undo()
        history.push(4)
        self.assertEqual(self.all(history), (4, 2, 0))
        self.fails(NothingToRedo, {}, history.redo)
        self.assertEqual(history.undo(), 2)
        self.assertEqual(history.redo(), 4)

    def test_equal_states(self):
        history = self.pushed(5, 5, 5)
        self.assertEqual(self.all(history), (5, 2, 0))
        self.assertEqual(history.undo(), 5)
        self.assertEqual(self.all(history), (5, 1, 1))
        history.push(5)
        self.assertEqual(self.all(history), (5, 2, 0))

    def test_back_to(self):
        history = self.pushed("a", "b", "c", "d")
        self.assertEqual(history.back_to(3), "d")
        self.assertEqual(self.all(history), ("d", 3, 0))
        self.assertEqual(history.back_to(1), "b")
        self.assertEqual(self.all(history), ("b", 1, 2))
        for steps in (-1, 2, 3, 100, -100):
            self.fails(UnknownStep, {"number": steps}, history.back_to, steps)
        self.assertEqual(self.all(history), ("b", 1, 2))
        self.assertEqual(history.redo(), "c")
        self.assertEqual(history.redo(), "d")
        self.assertEqual(history.back_to(0), "a")
        self.assertEqual(self.all(history), ("a", 0, 3))

    def test_the_states_themselves(self):
        class State:
            pass

        first, second = State(), State()
        history = self.pushed(first, second)
        self.assertIs(history.state, second)
        self.assertIs(history.undo(), first)
        self.assertIs(history.redo(), second)
        self.assertIs(history.back_to(0), first)

    def test_random(self):
        source = seeded(108)
        for _ in range(40):
            history, plain = History(0), PlainHistory(0)
            for number in range(60):
                deed = source.choice(["push", "push", "undo", "redo", "back"])
                _, steps, undone = plain.all()
                if deed == "push":
                    history.push(number)
                    plain.push(number)
                elif deed == "undo" and steps:
                    self.assertEqual(history.undo(), plain.move(-1))
                elif deed == "redo" and undone:
                    self.assertEqual(history.redo(), plain.move(1))
                elif deed == "back":
                    to = source.randint(0, steps)
                    self.assertEqual(history.back_to(to), plain.move(to - steps))
                self.assertEqual(self.all(history), plain.all())


if __name__ == "__main__":
    unittest.main()
