import copy
import itertools
import unittest

from curbdesk.bans import Ban
from curbdesk.counts import Counts
from curbdesk.errors import NoMark, NotStruck, UnknownKey, UnknownName, UnknownValue
from curbdesk.puzzles import Puzzle
from curbdesk.rings import Ring
from curbdesk.settle import Settler, settled_box
from curbdesk.sums import Sum
from curbdesk.tables import Table
from curbdesk.unlike import Unlike
from tests.support import (
    DeskCase, all_in, random_assumptions, random_parts, random_side, seeded, slow_settled, slow_supported,
)


def less_chain(names, values):
    """Return a puzzle in which each name is below the next one."""
    rules = [(f"{one}{other}", Ring([(one, other, -1)])) for one, other in zip(names, names[1:])]
    return Puzzle([(name, list(range(1, values + 1))) for name in names], rules)


class PlainSettler:
    """What the points 24 to 26 say of a settler, word by word: it keeps a copy of all that it is at each level."""

    def __init__(self, domains, rules):
        self.rules = dict(rules)
        self.now = {
            "sides": {name: sorted(set(values)) for name, values in domains}, "trail": [], "waits": list(self.rules),
        }
        self.saved = []

    def clashed(self):
        return not all(self.now["sides"].values())

    def box(self):
        return {name: [] if self.clashed() else list(side) for name, side in self.now["sides"].items()}

    def waiting(self):
        return [] if self.clashed() else [key for key in self.rules if key in self.now["waits"]]

    def run(self, key):
        if self.clashed():
            return []
        begin = copy.deepcopy(self.now["sides"])
        struck = []
        for name in self.rules[key].names:
            for value in begin[name]:
                if not self.clashed() and value not in slow_supported(self.rules[key], begin, name):
                    reason = {other: begin[other] for other in self.rules[key].names}
                    self.now["sides"][name].remove(value)
                    self.now["trail"].append((name, value, key, {**reason, name: [value]}))
                    struck.append((name, value))
        self.wake([name for name, _ in struck])
        self.now["waits"].remove(key) if key in self.now["waits"] else None
        return struck

    def wake(self, names):
        for key, rule in self.rules.items():
            if set(names) & set(rule.names) and key not in self.now["waits"]:
                self.now["waits"].append(key)

    def settle(self, order):
        ranked = order + list(self.rules)
        while self.waiting():
            self.run(min(self.waiting(), key=ranked.index))
        return not self.clashed()

    def assume(self, name, side):
        self.saved.append(copy.deepcopy(self.now))
        lost = [] if self.clashed() else [value for value in self.now["sides"][name] if value not in side]
        for value in lost:
            self.now["sides"][name].remove(value)
            self.now["trail"].append((name, value, None, None))
        self.wake([name] if lost else [])
        return len(self.saved)

    def back_to(self, level):
        if level < len(self.saved):
            self.now = self.saved[level]
            del self.saved[level:]

    def probe(self, assumptions):
        other = copy.deepcopy(self)
        for name, side in assumptions:
            other.assume(name, side)
        other.settle([])
        return other.box()


class SettlerCase(DeskCase):
    def everything(self, settler, puzzle):
        """Return all that can be asked of a settler; a probe is asked, too, as it must not change anything."""
        reasons = {}
        for name, value, _ in settler.trail():
            reasons[name, value] = settler.reason(name, value)
        return copy.deepcopy((
            settler.clashed, settler.level, settler.box(), settler.waiting(), settler.trail(), reasons,
            settler.probe([]), [settler.probe([(name, side[:1])]) for name, side in puzzle.domains()],
        ))


class SettledBoxTest(DeskCase):
    def test_example(self):
        puzzle = Puzzle([("x", [1, 2, 3]), ("y", [3, 1, 2])], [("less", Ring([("x", "y", -1)]))])
        self.assertEqual(self.ask(settled_box, puzzle), {"x": [1, 2], "y": [2, 3]})
        self.assertEqual(self.ask(settled_box, puzzle, assumptions=None), {"x": [1, 2], "y": [2, 3]})
        self.assertEqual(self.ask(settled_box, puzzle, assumptions=[]), {"x": [1, 2], "y": [2, 3]})
        self.assertEqual(self.ask(settled_box, puzzle, assumptions=[("x", [2, 3])]), {"x": [2], "y": [3]})
        with self.assertRaises(TypeError):
            settled_box(puzzle, [])

    def test_several_assumptions_on_one_name(self):
        puzzle = less_chain("xyz", 4)
        assumptions = [("y", [2, 3]), ("x", [1, 2]), ("y", [1, 3])]
        self.assertEqual(self.ask(settled_box, puzzle, assumptions=assumptions), {"x": [1, 2], "y": [3], "z": [4]})
        assumptions = [("y", [2]), ("y", [3])]
        self.assertEqual(self.ask(settled_box, puzzle, assumptions=assumptions), {"x": [], "y": [], "z": []})

    def test_clash(self):
        puzzle = less_chain("xyz", 2)
        self.assertEqual(self.ask(settled_box, puzzle), {"x": [], "y": [], "z": []})
        apart = Puzzle([("x", [1, 2]), ("y", [1])], [])
        self.assertEqual(self.ask(settled_box, apart, assumptions=[("x", [])]), {"x": [], "y": []})
        self.assertEqual(self.ask(settled_box, Puzzle([("x", []), ("y", [1])], [])), {"x": [], "y": []})

    def test_no_names(self):
        self.assertEqual(self.ask(settled_box, Puzzle([], [])), {})

    def test_errors(self):
        puzzle = less_chain("xy", 2)
        fails = [
            ([("z", []), ("x", [7])], UnknownName, {"name": "z"}),
            ([("x", [1, 7, 8]), ("z", [])], UnknownValue, {"name": "x", "value": 7}),
            ([("x", []), ("y", [0, 1, 9]), ("x", [5])], UnknownValue, {"name": "y", "value": 0}),
            ([("y", [1]), ("y", [3])], UnknownValue, {"name": "y", "value": 3}),
        ]
        for assumptions, error, attributes in fails:
            self.fails(error, attributes, settled_box, puzzle, assumptions=assumptions)
            settler = Settler(puzzle)
            self.fails(error, attributes, settler.probe, assumptions)

    def test_random(self):
        source = seeded(71)
        clashes = 0
        for _ in range(200):
            domains, rules = random_parts(source, least=source.choice([0, 1, 1, 1]))
            puzzle = Puzzle(domains, rules)
            assumptions = random_assumptions(source, domains, 4)
            expected = slow_settled(domains, rules, assumptions)
            self.assertEqual(self.ask(settled_box, puzzle, assumptions=assumptions), expected)
            self.assertEqual(self.ask(Settler(puzzle).probe, assumptions), expected)
            clashes += not all(expected.values())
        self.assertTrue(40 < clashes < 170, clashes)

    def test_full_size(self):
        names = [f"n{k}" for k in range(8)]
        domains = [(name, list(range(9))) for name in names]
        pairs = list(itertools.combinations(names, 2))
        triples = list(itertools.combinations(names, 3))[::4][:16]
        kinds = {
            "table": [Table(names, [[8 - (k * (j + 3) + k % 2 * s) % 9 for j in range(8)] for k in range(64)])
                      for s in range(16)],
            "ban": [Ban(list(pair), [(j, (j + k) % 9) for j in range(9) for k in range(5)]) for pair in pairs[:16]],
            "sum": [Sum([(1, a), (-10, b), (100, c)], high=500 - k) for k, (a, b, c) in enumerate(triples)],
            "ring": [Ring([(a, b, -1) for a, b in pairs] + [(b, a, 7) for a, b in pairs]) for _ in range(16)],
            "unlike": [Unlike(names) for _ in range(16)],
            "counts": [Counts(names, [(value, 0, 1) for value in range(k % 9)]) for k in range(16)],
        }
        assumptions = [(names[k], list(range(k // 2, 9))) for k in range(8)] * 2
        clashes = {}
        for kind, rules in kinds.items():
            puzzle = Puzzle(domains, [(f"{kind}{k}", rule) for k, rule in enumerate(rules)])
            box = self.ask(settled_box, puzzle, assumptions=assumptions)
            clashes[kind] = not all(box.values())
            for rule in rules if all(box.values()) else []:
                for name in rule.names:
                    self.assertEqual(rule.supported(box, name), box[name])
        self.assertEqual([kind for kind in kinds if clashes[kind]], [])
        ring = Puzzle(domains, [(f"r{k}", Ring([(a, b, -1)])) for k, (a, b) in enumerate(zip(names, names[1:]))])
        self.assertEqual(settled_box(ring), {name: [k, k + 1] for k, name in enumerate(names)})
        self.assertEqual(settled_box(ring, assumptions=[("n3", [3])]),
                         {name: [k] if k < 4 else [k, k + 1] for k, name in enumerate(names)})


class SettlerTest(SettlerCase):
    def test_new_settler(self):
        puzzle = less_chain("xyz", 3)
        settler = Settler(puzzle)
        self.assertIs(settler.clashed, False)
        self.assertEqual(settler.level, 0)
        self.assertEqual(self.ask(settler.box), {"x": [1, 2, 3], "y": [1, 2, 3], "z": [1, 2, 3]})
        self.assertEqual(self.ask(settler.waiting), ["xy", "yz"])
        self.assertEqual(self.ask(settler.trail), [])

    def test_no_names(self):
        settler = Settler(Puzzle([], []))
        self.assertIs(settler.clashed, False)
        self.assertIs(settler.settle(), True)
        self.assertEqual((settler.box(), settler.waiting(), settler.trail(), settler.probe([])), ({}, [], [], {}))

    def test_empty_domain(self):
        settler = Settler(Puzzle([("x", [1]), ("y", [])], [("a", Unlike(["x"]))]))
        self.assertIs(settler.clashed, True)
        self.assertEqual(self.ask(settler.box), {"x": [], "y": []})
        self.assertEqual(self.ask(settler.waiting), [])
        self.assertEqual(settler.run("a"), [])
        self.assertIs(settler.settle(), False)
        self.assertEqual(self.ask(settler.trail), [])
        self.fails(NotStruck, {"name": "x", "value": 1}, settler.reason, "x", 1)

    def test_run(self):
        settler = Settler(less_chain("xyz", 3))
        self.assertEqual(settler.run("xy"), [("x", 3), ("y", 1)])
        self.assertEqual(self.ask(settler.box), {"x": [1, 2], "y": [2, 3], "z": [1, 2, 3]})
        self.assertEqual(self.ask(settler.waiting), ["yz"])
        self.assertEqual(settler.run("yz"), [("y", 3), ("z", 1), ("z", 2)])
        self.assertEqual(self.ask(settler.waiting), ["xy"])
        self.assertEqual(settler.run("yz"), [])
        self.assertEqual(self.ask(settler.waiting), ["xy"])
        self.assertEqual(settler.run("xy"), [("x", 2)])
        self.assertEqual(self.ask(settler.waiting), [])
        self.assertEqual(self.ask(settler.box), {"x": [1], "y": [2], "z": [3]})
        self.assertEqual(self.ask(settler.trail), [
            ("x", 3, "xy"), ("y", 1, "xy"), ("y", 3, "yz"), ("z", 1, "yz"), ("z", 2, "yz"), ("x", 2, "xy"),
        ])

    def test_run_without_strikes(self):
        settler = Settler(Puzzle([("x", [1, 2])], [("a", Ban(["x"], [])), ("b", Ban(["x"], []))]))
        self.assertEqual(settler.run("a"), [])
        self.assertEqual(self.ask(settler.waiting), ["b"])

    def test_run_goes_by_the_rule(self):
        rule = Table(["z", "x"], [(2, 2)])
        settler = Settler(Puzzle([("x", [1, 2, 3]), ("y", [1]), ("z", [3, 2, 1])], [("a", rule)]))
        self.assertEqual(settler.run("a"), [("z", 1), ("z", 3), ("x", 1), ("x", 3)])

    def test_run_stops_when_a_side_is_empty(self):
        rules = [("a", Table(["y", "x"], [])), ("b", Unlike(["x", "z"])), ("c", Unlike(["y", "z"]))]
        rules.append(("d", Unlike(["z"])))
        settler = Settler(Puzzle([("x", [1, 2]), ("y", [1, 2]), ("z", [1])], rules))
        for key in ("b", "c", "d"):
            settler.run(key)
        self.assertEqual(settler.level, 0)
        settler.assume("z", [1])
        self.assertEqual(settler.run("a"), [("y", 2)])
        self.assertIs(settler.clashed, True)
        self.assertEqual(self.ask(settler.box), {"x": [], "y": [], "z": []})
        self.assertEqual(self.ask(settler.waiting), [])
        self.assertEqual(settler.trail(), [("x", 1, "b"), ("y", 1, "c"), ("y", 2, "a")])
        settler.back_to(0)
        self.assertEqual(self.ask(settler.waiting), ["a"])
        self.assertEqual(settler.box(), {"x": [2], "y": [2], "z": [1]})

    def test_same_rule_under_several_keys(self):
        rule = Unlike(["x", "y"])
        settler = Settler(Puzzle([("x", [1]), ("y", [1, 2])], [("a", rule), ("b", rule)]))
        self.assertEqual(settler.run("b"), [("y", 1)])
        self.assertEqual(self.ask(settler.waiting), ["a"])
        self.assertEqual(settler.trail(), [("y", 1, "b")])

    def test_unknown_keys(self):
        puzzle = less_chain("xyz", 3)
        settler = Settler(puzzle)
        for assumed in ([("x", [1, 3])], [("y", [])]):
            settler.assume(*assumed[0])
            before = self.everything(settler, puzzle)
            self.fails(UnknownKey, {"key": "zz"}, settler.run, "zz")
            self.fails(UnknownKey, {"key": "zz"}, settler.settle, order=["xy", "zz", "ww"])
            self.assertEqual(self.everything(settler, puzzle), before)
        with self.assertRaises(TypeError):
            settler.settle(["xy"])

    def test_settle(self):
        puzzle = less_chain("wxyz", 5)
        for order in itertools.permutations(["wx", "xy", "yz"]):
            for length in range(4):
                settler = Settler(puzzle)
                self.assertIs(settler.settle(order=list(order[:length])), True)
                self.assertEqual(settler.box(), {"w": [1, 2], "x": [2, 3], "y": [3, 4], "z": [4, 5]})
                self.assertEqual(settler.waiting(), [])
        self.assertIs(Settler(less_chain("wxyz", 3)).settle(), False)
        settler = Settler(puzzle)
        self.assertIs(settler.settle(order=None), True)
        trail = settler.trail()
        self.assertIs(settler.settle(), True)
        self.assertEqual(settler.trail(), trail)

    def test_order(self):
        rules = [(key, Table(["x"], [(1,), (2,)] if key in "bd" else [(1,), (3,)])) for key in "abcd"]
        for order, expected in (
            (None, "ab"), ([], "ab"), (["b"], "ba"), (["d", "c"], "dc"), (["c", "c", "b"], "cb"), (["d", "d"], "da"),
            (["c", "d", "c"], "cd"), (["b", "a", "d", "c", "b"], "ba"),
        ):
            settler = Settler(Puzzle([("x", [1, 2, 3])], rules))
            kept = copy.deepcopy(order)
            self.assertIs(settler.settle(order=order), True)
            self.assertEqual(order, kept)
            self.assertEqual("".join(key for _, _, key in settler.trail()), expected)

    def test_assume(self):
        puzzle = less_chain("xyz", 4)
        settler = Settler(puzzle)
        settler.settle()
        self.assertEqual(settler.assume("y", [1, 3, 4]), 1)
        self.assertEqual(settler.level, 1)
        self.assertEqual(self.ask(settler.waiting), ["xy", "yz"])
        self.assertEqual(settler.box(), {"x": [1, 2], "y": [3], "z": [3, 4]})
        self.assertEqual(settler.trail()[-1], ("y", 2, None))
        self.assertIs(settler.settle(), True)
        self.assertEqual(settler.assume("y", [1, 2, 3, 4]), 2)
        self.assertEqual(self.ask(settler.waiting), [])
        self.assertEqual(settler.assume("y", []), 3)
        self.assertIs(settler.clashed, True)
        self.assertEqual(settler.trail()[-1], ("y", 3, None))

    def test_assume_strikes_all_values(self):
        settler = Settler(Puzzle([("x", [3, 1, 2]), ("y", [1])], [("a", Unlike(["x", "y"]))]))
        settler.assume("x", [])
        self.assertEqual(settler.trail(), [("x", 1, None), ("x", 2, None), ("x", 3, None)])
        settler.back_to(0)
        self.assertEqual(settler.trail(), [])

    def test_everything_while_clashed(self):
        puzzle = less_chain("xyz", 3)
        settler = Settler(puzzle)
        settler.run("xy")
        settler.assume("z", [])
        trail = settler.trail()
        self.assertEqual(settler.assume("x", [2]), 2)
        self.assertEqual(settler.assume("x", []), 3)
        self.assertEqual(settler.run("xy"), [])
        self.assertEqual(settler.run("yz"), [])
        self.assertIs(settler.settle(order=["yz"]), False)
        self.assertEqual(self.ask(settler.probe, [("x", [1])]), {"x": [], "y": [], "z": []})
        self.assertEqual(settler.trail(), trail)
        self.assertEqual((settler.level, settler.clashed, settler.waiting()), (3, True, []))
        self.fails(UnknownName, {"name": "w"}, settler.assume, "w", [9])
        self.fails(UnknownValue, {"name": "x", "value": 4}, settler.assume, "x", [1, 4, 5])
        self.fails(UnknownName, {"name": "w"}, settler.probe, [("x", [1]), ("w", [9])])
        self.fails(NotStruck, {"name": "x", "value": 1}, settler.reason, "x", 1)
        self.assertEqual(settler.reason("x", 3), ("xy", {"x": [3], "y": [1, 2, 3]}))
        self.assertEqual(settler.reason("z", 3), (None, None))
        self.assertEqual(settler.level, 3)
        self.assertIsNone(settler.back_to(1))
        self.assertIs(settler.clashed, True)
        self.assertIsNone(settler.back_to(0))
        self.assertEqual(settler.waiting(), ["yz"])
        self.assertEqual(settler.box(), {"x": [1, 2], "y": [2, 3], "z": [1, 2, 3]})

    def test_errors_of_assume(self):
        puzzle = less_chain("xy", 3)
        settler = Settler(puzzle)
        settler.run("xy")
        before = self.everything(settler, puzzle)
        self.fails(UnknownName, {"name": "w"}, settler.assume, "w", [])
        self.fails(UnknownValue, {"name": "x", "value": 0}, settler.assume, "x", [0, 1, 7])
        self.assertEqual(self.everything(settler, puzzle), before)

    def test_back_to(self):
        puzzle = less_chain("wxyz", 6)
        settler = Settler(puzzle)
        settler.run("xy")
        states = []
        for name, side in (("y", [2, 4, 5]), ("w", [2, 3]), ("z", [5]), ("x", [])):
            states.append(self.everything(settler, puzzle))
            settler.assume(name, side)
            settler.run(puzzle.rule_keys[len(states) % 3])
        present = self.everything(settler, puzzle)
        self.assertIsNone(settler.back_to(4))
        self.assertEqual(self.everything(settler, puzzle), present)
        for level in (-1, 5, 10 ** 12):
            self.fails(NoMark, {"number": level}, settler.back_to, level)
            self.assertEqual(self.everything(settler, puzzle), present)
        for level in (3, 2, 0):
            settler.back_to(level)
            self.assertEqual(self.everything(settler, puzzle), states[level])
            self.fails(NoMark, {"number": level + 1}, settler.back_to, level + 1)
        self.assertIsNone(settler.back_to(0))
        self.assertEqual(self.everything(settler, puzzle), states[0])

    def test_a_level_that_is_raised_again(self):
        puzzle = less_chain("xy", 4)
        settler = Settler(puzzle)
        settler.assume("x", [3])
        settler.back_to(0)
        settler.run("xy")
        settler.assume("x", [2])
        settler.back_to(0)
        self.assertEqual(settler.box(), {"x": [1, 2, 3], "y": [2, 3, 4]})
        self.assertEqual(settler.waiting(), [])

    def test_probe(self):
        puzzle = less_chain("xyz", 4)
        settler = Settler(puzzle)
        settler.run("xy")
        settler.assume("x", [1, 3])
        before = self.everything(settler, puzzle)
        self.assertEqual(self.ask(settler.probe, []), {"x": [1], "y": [2, 3], "z": [3, 4]})
        self.assertEqual(self.ask(settler.probe, [("y", [2, 4]), ("x", [1, 2])]), {"x": [1], "y": [2], "z": [3, 4]})
        self.assertEqual(self.ask(settler.probe, [("x", [2])]), {"x": [], "y": [], "z": []})
        self.fails(UnknownName, {"name": "w"}, settler.probe, [("x", [2]), ("w", []), ("y", [7])])
        self.fails(UnknownValue, {"name": "y", "value": 7}, settler.probe, [("x", [2]), ("y", [7, 8]), ("w", [])])
        self.assertEqual(self.everything(settler, puzzle), before)

    def test_reason(self):
        settler = Settler(less_chain("xyz", 3))
        settler.assume("y", [1, 2])
        settler.settle()
        self.assertEqual(settler.trail(), [("y", 3, None), ("x", 2, "xy"), ("x", 3, "xy"), ("y", 1, "xy"),
                                           ("z", 1, "yz"), ("z", 2, "yz")])
        self.assertEqual(self.ask(settler.reason, "y", 3), (None, None))
        self.assertEqual(self.ask(settler.reason, "x", 3), ("xy", {"x": [3], "y": [1, 2]}))
        self.assertEqual(self.ask(settler.reason, "y", 1), ("xy", {"x": [1, 2, 3], "y": [1]}))
        self.assertEqual(self.ask(settler.reason, "z", 2), ("yz", {"y": [2], "z": [2]}))
        self.fails(NotStruck, {"name": "z", "value": 3}, settler.reason, "z", 3)
        self.fails(UnknownName, {"name": "w"}, settler.reason, "w", 3)
        self.fails(UnknownValue, {"name": "x", "value": 4}, settler.reason, "x", 4)

    def test_later_changes_have_no_effect(self):
        domains, rules = [("x", [1, 2]), ("y", [1, 2])], [("a", Unlike(["x", "y"]))]
        puzzle = Puzzle(domains, rules)
        settler = Settler(puzzle)
        side = [1]
        settler.assume("x", side)
        side.append(2)
        domains[0][1].append(9)
        settler.settle()
        before = self.everything(settler, puzzle)
        settler.box()["x"].append(2)
        settler.waiting().append("a")
        settler.trail().append(("x", 1, None))
        settler.reason("y", 1)[1]["x"].append(2)
        settler.probe([])["x"].append(2)
        settler.run("a").append(("x", 1))
        self.assertEqual(self.everything(settler, puzzle), before)
        self.assertEqual(settler.box(), {"x": [1], "y": [2]})

    def test_two_settlers_of_one_puzzle(self):
        puzzle = less_chain("xy", 3)
        first, second = Settler(puzzle), Settler(puzzle)
        first.assume("x", [2])
        first.settle()
        self.assertEqual((second.level, second.trail(), second.waiting()), (0, [], ["xy"]))
        self.assertEqual(puzzle.box(), {"x": [1, 2, 3], "y": [1, 2, 3]})


class RandomSettlerTest(SettlerCase):
    def test_random(self):
        source = seeded(72)
        for _ in range(120):
            domains, rules = random_parts(source, least=source.choice([0, 1, 2, 2]))
            puzzle = Puzzle(domains, rules)
            settler, plain = Settler(puzzle), PlainSettler(domains, rules)
            for _ in range(12):
                self.deed(source, puzzle, settler, plain)
                self.compare(puzzle, settler, plain)
            settler.settle()
            plain.settle([])
            self.compare(puzzle, settler, plain)

    def deed(self, source, puzzle, settler, plain):
        keys = list(puzzle.rule_keys)
        deed = source.choice(["run", "run", "settle", "assume", "assume", "back", "probe"])
        if deed == "run" and keys:
            key = source.choice(keys)
            self.assertEqual(settler.run(key), plain.run(key))
        elif deed == "settle":
            order = [source.choice(keys) for _ in range(source.randint(0, 5))] if keys else []
            self.assertIs(settler.settle(order=order), plain.settle(order))
        elif deed == "assume":
            name, domain = source.choice(puzzle.domains())
            side = [value for value in random_side(source, 4, least=2) if value in domain]
            self.assertEqual(settler.assume(name, side), plain.assume(name, side))
        elif deed == "back":
            level = source.randint(max(0, settler.level - 2), settler.level)
            settler.back_to(level)
            plain.back_to(level)
        elif deed == "probe":
            assumptions = random_assumptions(source, puzzle.domains(), 2)
            self.assertEqual(self.ask(settler.probe, assumptions), plain.probe(assumptions))

    def compare(self, puzzle, settler, plain):
        self.assertEqual(self.ask(settler.box), plain.box())
        self.assertEqual(self.ask(settler.waiting), plain.waiting())
        self.assertIs(settler.clashed, plain.clashed())
        self.assertEqual(settler.level, len(plain.saved))
        self.assertEqual(self.ask(settler.trail), [strike[:3] for strike in plain.now["trail"]])
        struck = {(name, value) for name, value, _ in settler.trail()}
        for name, value, key, box in plain.now["trail"]:
            self.assertEqual(self.ask(settler.reason, name, value), (key, box))
            if key is not None:
                rule = puzzle.rule(key)
                self.assertFalse(any(rule.allows(values) for values in all_in(box, rule.names)))
        for name, domain in puzzle.domains():
            for value in domain:
                if (name, value) not in struck:
                    self.fails(NotStruck, {"name": name, "value": value}, settler.reason, name, value)

    def test_whatever_the_order(self):
        source = seeded(73)
        for _ in range(80):
            domains, rules = random_parts(source, 4, 5)
            puzzle = Puzzle(domains, rules)
            assumptions = random_assumptions(source, domains, 3)
            settler = Settler(puzzle)
            for name, side in assumptions:
                settler.assume(name, side)
                if source.random() < 0.4:
                    settler.settle(order=source.sample(puzzle.rule_keys, len(puzzle.rule_keys)))
            fine = settler.settle(order=source.sample(puzzle.rule_keys, len(puzzle.rule_keys) // 2))
            expected = slow_settled(domains, rules, assumptions)
            self.assertEqual(settler.box(), expected)
            self.assertIs(fine, all(bool(side) for side in expected.values()))
            for key in settler.waiting():
                self.fail(key)


if __name__ == "__main__":
    unittest.main()
