import copy
import unittest

from curbdesk.errors import NoMark, RepeatedName, UnknownName, UnknownValue
from curbdesk.store import Store
from tests.support import DeskCase, seeded

DOMAINS = [("b", [3, 1, 2, 1]), ("a", [5]), ("c", [])]


def everything(store):
    """Return all that can be asked of a store."""
    return copy.deepcopy((
        store.names, store.level, [store.side(name) for name in store.names], store.box(), store.trail(), store.marks(),
        [store.place(name, value) for name, value, _ in store.trail()],
    ))


class StoreTest(DeskCase):
    def test_new_store(self):
        store = Store(DOMAINS)
        self.assertEqual(store.names, ("b", "a", "c"))
        self.assertIs(type(store.names), tuple)
        self.assertEqual(store.level, 0)
        self.assertEqual(self.ask(store.box), {"b": [1, 2, 3], "a": [5], "c": []})
        self.assertEqual(self.ask(store.side, "b"), [1, 2, 3])
        self.assertEqual(self.ask(store.side, "c"), [])
        self.assertEqual(self.ask(store.trail), [])
        self.assertEqual(self.ask(store.marks), [])
        self.assertIsNone(self.ask(store.place, "b", 2))

    def test_no_names(self):
        store = Store([])
        self.assertEqual((store.names, store.box(), store.trail(), store.level), ((), {}, [], 0))
        self.fails(UnknownName, {"name": "x"}, store.side, "x")

    def test_repeated_name(self):
        self.fails(RepeatedName, {"name": "a"}, Store, [("b", [1]), ("a", [1]), ("a", [1]), ("b", [1])])
        self.fails(RepeatedName, {"name": "b"}, Store, [("b", []), ("b", [])])

    def test_strike(self):
        store = Store(DOMAINS)
        self.assertIs(store.strike("b", 2), True)
        self.assertIs(store.strike("b", 1, note="why"), True)
        self.assertEqual(self.ask(store.side, "b"), [3])
        self.assertEqual(self.ask(store.trail), [("b", 2, None), ("b", 1, "why")])
        self.assertEqual([self.ask(store.place, "b", value) for value in (1, 2, 3)], [1, 0, None])
        self.assertIs(store.strike("a", 5), True)
        self.assertEqual(self.ask(store.box), {"b": [3], "a": [], "c": []})

    def test_strike_that_was_made_before(self):
        store = Store(DOMAINS)
        store.strike("b", 2, note=1)
        before = everything(store)
        self.assertIs(store.strike("b", 2, note=2), False)
        self.assertIs(store.strike("b", 2), False)
        self.assertEqual(everything(store), before)
        self.assertEqual(store.trail(), [("b", 2, 1)])

    def test_notes(self):
        store = Store([("a", [1, 2, 3, 4, 5])])
        notes = [None, -10 ** 20, "word", ("key", 3, None), ((((1, "x"),), None), "y")]
        for value, note in enumerate(notes, 1):
            store.strike("a", value, note=note)
        self.assertEqual([note for _, _, note in self.ask(store.trail)], notes)
        with self.assertRaises(TypeError):
            store.strike("a", 1, "note")

    def test_keep(self):
        store = Store([("a", [4, 1, 3, 2]), ("b", [1])])
        store.strike("a", 3, note="early")
        self.assertEqual(store.keep("a", [3, 4, 9], note=("n", 1)), 2)
        self.assertEqual(store.trail(), [("a", 3, "early"), ("a", 1, ("n", 1)), ("a", 2, ("n", 1))])
        self.assertEqual(self.ask(store.side, "a"), [4])
        self.assertEqual(store.keep("a", [4]), 0)
        self.assertEqual(store.keep("a", []), 1)
        self.assertEqual(store.trail()[-1], ("a", 4, None))
        self.assertEqual(store.keep("a", [1, 2, 3]), 0)
        self.assertEqual(store.box(), {"a": [], "b": [1]})
        side = [0, 1]
        self.assertEqual(store.keep("b", side), 0)
        self.assertEqual(side, [0, 1])

    def test_marks(self):
        store = Store(DOMAINS)
        self.assertEqual(store.mark(), 1)
        store.strike("b", 3)
        self.assertEqual(store.mark(), 2)
        self.assertEqual(store.mark(), 3)
        store.strike("b", 1)
        self.assertEqual(store.level, 3)
        self.assertEqual(self.ask(store.marks), [0, 1, 1])

    def test_undo(self):
        store = Store(DOMAINS)
        store.strike("b", 3)
        first = everything(store)
        store.mark()
        store.strike("b", 1)
        store.strike("a", 5)
        second = everything(store)
        store.mark()
        self.assertEqual(store.undo(), 0)
        self.assertEqual(everything(store), second)
        store.mark()
        store.strike("b", 2)
        self.assertEqual(store.undo(), 1)
        self.assertEqual(everything(store), second)
        self.assertEqual(store.undo(), 2)
        self.assertEqual(everything(store), first)
        self.assertIsNone(store.place("b", 1))
        self.assertEqual(store.place("b", 3), 0)
        self.assertIs(store.strike("b", 1, note="again"), True)
        self.assertEqual(store.trail(), [("b", 3, None), ("b", 1, "again")])

    def test_undo_without_a_mark(self):
        store = Store(DOMAINS)
        store.strike("b", 3)
        before = everything(store)
        self.fails(NoMark, {"number": 0}, store.undo)
        self.assertEqual(everything(store), before)
        store.mark()
        store.undo()
        self.fails(NoMark, {"number": 0}, store.undo)

    def test_back_to(self):
        store = Store(DOMAINS)
        states = []
        for value in (2, 3, 1):
            states.append(everything(store))
            store.mark()
            store.strike("b", value)
        store.strike("a", 5)
        present = everything(store)
        self.assertEqual(store.back_to(3), 0)
        self.assertEqual(everything(store), present)
        for level in (-1, 4, 10 ** 12):
            self.fails(NoMark, {"number": level}, store.back_to, level)
            self.assertEqual(everything(store), present)
        self.assertEqual(store.back_to(1), 3)
        self.assertEqual(everything(store), states[1])
        self.fails(NoMark, {"number": 2}, store.back_to, 2)
        self.assertEqual(store.back_to(0), 1)
        self.assertEqual(everything(store), states[0])
        self.assertEqual(store.back_to(0), 0)
        self.fails(NoMark, {"number": -1}, store.back_to, -1)

    def test_errors_of_names_and_values(self):
        store = Store(DOMAINS)
        store.strike("b", 2, note=1)
        store.mark()
        before = everything(store)
        for function in (store.side,):
            self.fails(UnknownName, {"name": "x"}, function, "x")
        for function in (store.strike, store.place):
            self.fails(UnknownName, {"name": "x"}, function, "x", 77)
            self.fails(UnknownValue, {"name": "b", "value": 4}, function, "b", 4)
            self.fails(UnknownValue, {"name": "c", "value": 1}, function, "c", 1)
        self.fails(UnknownName, {"name": "x"}, store.keep, "x", [1], note=3)
        self.assertEqual(everything(store), before)

    def test_later_changes_have_no_effect(self):
        domains = [("a", [2, 1]), ("b", [7])]
        store = Store(domains)
        domains[0][1].append(9)
        domains.append(("c", [1]))
        self.assertEqual(store.box(), {"a": [1, 2], "b": [7]})
        store.box()["a"].append(3)
        store.side("a").append(3)
        store.trail().append(("a", 1, None))
        store.marks().append(1)
        self.assertEqual(everything(store), everything(Store([("a", [1, 2]), ("b", [7])])))

    def test_arguments_stay(self):
        domains = [("a", [2, 1, 2])]
        Store(domains)
        self.assertEqual(domains, [("a", [2, 1, 2])])

    def test_random(self):
        source = seeded(61)
        for _ in range(60):
            domains = [(name, [source.randint(-3, 3) for _ in range(source.randint(0, 5))]) for name in "cab"]
            self.compare(source, domains)

    def compare(self, source, domains):
        """A store beside a plain trail, of which all else can be worked out."""
        store = Store(domains)
        trail, marks = [], []
        for _ in range(30):
            deed = source.choice(["strike", "strike", "keep", "mark", "undo", "back"])
            name = source.choice("cab")
            side = [value for value in sorted(set(dict(domains)[name])) if (name, value) not in [t[:2] for t in trail]]
            if deed == "strike" and dict(domains)[name]:
                value = source.choice(dict(domains)[name])
                self.assertIs(store.strike(name, value, note=len(trail)), value in side)
                trail += [(name, value, len(trail))] if value in side else []
            elif deed == "keep":
                kept = [value for value in range(-3, 4) if source.random() < 0.6]
                lost = [value for value in side if value not in kept]
                self.assertEqual(store.keep(name, kept, note="k"), len(lost))
                trail += [(name, value, "k") for value in lost]
            elif deed == "mark":
                marks.append(len(trail))
                self.assertEqual(store.mark(), len(marks))
            elif marks and deed in ("undo", "back"):
                level = len(marks) - 1 if deed == "undo" else source.randint(0, len(marks))
                length = (marks + [len(trail)])[level]
                taken = store.undo() if deed == "undo" else store.back_to(level)
                self.assertEqual(taken, len(trail) - length)
                del trail[length:], marks[level:]
            self.check_all(store, domains, trail, marks)

    def check_all(self, store, domains, trail, marks):
        places = {(name, value): place for place, (name, value, _) in enumerate(trail)}
        self.assertEqual(store.trail(), trail)
        self.assertEqual(store.marks(), marks)
        self.assertEqual(store.level, len(marks))
        for name, values in domains:
            side = [value for value in sorted(set(values)) if (name, value) not in places]
            self.assertEqual(store.side(name), side)
            self.assertEqual(store.box()[name], side)
            for value in values:
                self.assertEqual(store.place(name, value), places.get((name, value)))

    def test_full_size(self):
        names = [f"n{k}" for k in range(20)]
        store = Store([(name, list(range(20))) for name in names])
        for value in range(19):
            store.mark()
            for name in names:
                self.assertIs(store.strike(name, value), True)
        self.assertEqual(store.box(), {name: [19] for name in names})
        self.assertEqual(len(store.trail()), 380)
        self.assertEqual(store.back_to(0), 380)
        self.assertEqual(store.box(), {name: list(range(20)) for name in names})


if __name__ == "__main__":
    unittest.main()
