"""What several test files need: a check of how functions treat arguments and results, and slow answers."""

import copy
import itertools
import random
import signal
import unittest

from curbdesk.bans import Ban
from curbdesk.counts import Counts
from curbdesk.rings import Ring
from curbdesk.sums import Sum
from curbdesk.tables import Table
from curbdesk.unlike import Unlike

# Far more than any test needs; going through all assignments of a large box takes longer than that.
MOST_SECONDS = 90


def mutables(thing):
    """Return all lists and dictionaries in a thing, once for each place where they stand."""
    found = []
    if isinstance(thing, (list, dict)):
        found.append(thing)
    if isinstance(thing, dict):
        parts = list(thing.keys()) + list(thing.values())
    elif isinstance(thing, (list, tuple)):
        parts = list(thing)
    else:
        parts = []
    for part in parts:
        found.extend(mutables(part))
    return found


def spoil(thing):
    """Change all lists and dictionaries in a thing."""
    for part in mutables(thing):
        if isinstance(part, list):
            part.append("spoiled")
        else:
            part["spoiled"] = "spoiled"


def is_plain(thing):
    """Tell whether a thing consists of numbers, strings, lists, tuples and dictionaries alone."""
    if isinstance(thing, dict):
        return all(is_plain(part) for part in list(thing.keys()) + list(thing.values()))
    if isinstance(thing, (list, tuple)):
        return all(is_plain(part) for part in thing)
    return thing is None or isinstance(thing, (int, str))


def plain_parts(args, named):
    """Return the arguments that are no objects of the program and have none in them."""
    return [arg for arg in list(args) + list(named.values()) if is_plain(arg)]


class DeskCase(unittest.TestCase):
    """A test case that also looks at what a call does to its arguments and to what it has returned."""

    maxDiff = None

    def setUp(self):
        signal.signal(signal.SIGALRM, self.too_long)
        signal.alarm(MOST_SECONDS)
        self.addCleanup(signal.alarm, 0)

    def too_long(self, *_):
        raise AssertionError("the test takes too long")

    def ask(self, function, *args, **named):
        """Call, check point 2 of the document, and return the result."""
        kept = copy.deepcopy(plain_parts(args, named))
        result = function(*args, **named)
        self.assertEqual(plain_parts(args, named), kept, "the arguments were changed")
        self.check_new(result, plain_parts(args, named))
        expected = copy.deepcopy(result)
        spoil(result)
        again = function(*args, **named)
        self.assertEqual(again, expected, "asking twice gave two results")
        self.check_plain(again)
        return again

    def check_new(self, result, given):
        places = [id(part) for part in mutables(result)]
        self.assertEqual(len(places), len(set(places)), "a list or dictionary stands at two places")
        old = {id(part) for part in mutables(given)}
        self.assertFalse(old & set(places), "a list or dictionary of an argument was returned")

    def check_plain(self, thing, kinds=(int, str, bool, type(None))):
        """Check that numbers are plain integers, and True and False at most the whole result."""
        if isinstance(thing, dict):
            parts = list(thing.keys()) + list(thing.values())
        elif isinstance(thing, (list, tuple)):
            parts = list(thing)
        else:
            self.assertIn(type(thing), kinds)
            parts = []
        for part in parts:
            self.check_plain(part, (int, str, type(None)))

    def fails(self, error, attributes, function, *args, **named):
        """Check that a call raises exactly this error with these attributes, and changes no argument."""
        kept = copy.deepcopy(plain_parts(args, named))
        with self.assertRaises(ValueError) as caught:
            function(*args, **named)
        self.assertIs(type(caught.exception), error)
        self.assertEqual(vars(caught.exception), attributes)
        self.assertEqual(plain_parts(args, named), kept, "the arguments were changed")
        return caught.exception


class RuleCase(DeskCase):
    """A test case that compares a rule with what a plain test of single assignments says of it."""

    # The words of the certificates of the kind of rule that is tested, besides "empty".
    words = ()

    def expected_word(self, rule, box):
        """Return the word of the certificate for a bare box without empty sides."""
        return self.words[0]

    def check_rule(self, rule, box, is_allowed):
        """Check the methods of points 14 and 15 for a box that is small enough to go through."""
        inside = all_in(box, rule.names)
        allowed = [values for values in inside if is_allowed(values)]
        for values in inside:
            self.assertIs(rule.allows(values), is_allowed(values))
        witness = self.ask(rule.witness, box)
        self.assertEqual(witness, allowed[0] if allowed else None)
        for name in rule.names:
            supported = sorted({values[name] for values in allowed})
            self.assertEqual(self.ask(rule.supported, box, name), supported)
        self.check_certificate(rule, box, bool(allowed))

    def check_certificate(self, rule, box, open_box):
        certificate = self.ask(rule.certificate, box)
        empty = [name for name in rule.names if not box[name]]
        if open_box:
            self.assertIsNone(certificate)
        elif empty:
            self.assertEqual(certificate, ("empty", empty[0]))
        else:
            self.assertEqual(certificate[0], self.expected_word(rule, box))
        if certificate is not None:
            self.assertIs(type(certificate), tuple)
            self.assertIs(self.ask(rule.accepts, box, certificate), True)
        for name in list(box) + ["nobody"]:
            accepted = self.ask(rule.accepts, box, ("empty", name))
            self.assertIs(accepted, name in rule.names and not box[name])
        self.check_words_of_others(rule, box)

    def check_words_of_others(self, rule, box):
        """No kind accepts a word of another kind, also not for a bare box or an empty side."""
        names = list(rule.names)
        contents = {
            "blame": [[], names, names[:1]],
            "full": [[], [0], [0, 1]],
            "layers": [[[]], [[0], []], [[0]] + [[] for _ in names], [[0], [1, 2]]],
            "climb": [[], [0]],
            "crowd": [[], names, names[:1], names[:2]],
            "want": [[], [0], [1]],
        }
        for word, samples in contents.items():
            for content in samples:
                if word not in self.words:
                    self.assertIs(rule.accepts(box, (word, content)), False, (word, content))


def all_in(box, names=None):
    """Return all assignments of the names that a box holds, in order. Slow, and plain."""
    if names is None:
        names = list(box)
    sides = [box[name] for name in names]
    return [dict(zip(names, values)) for values in itertools.product(*sides)]


def held(box, values):
    return all(values[name] in side for name, side in box.items())


def random_side(source, top, *, least=0):
    size = source.randint(least, top)
    return sorted(source.sample(range(-1, top), size))


def random_box(source, names, top, *, least=0):
    return {name: random_side(source, top, least=least) for name in names}


def seeded(number):
    return random.Random(number)


def wide_box(names=20, values=20):
    """Return a box at the full size of point 3: its assignments cannot be gone through."""
    return {f"n{number}": list(range(-5, values - 5)) for number in range(names)}


def random_rule(source, names):
    """Return a rule of any kind over some of the names, for values from 0 to 3."""
    some = source.sample(names, source.randint(1, min(3, len(names))))
    rows = [[source.randint(0, 3) for _ in some] for _ in range(source.randint(2, 9))]
    low = source.randint(-3, 4)
    kind = source.choice(["table", "ban", "sum", "ring", "unlike", "counts"])
    if kind == "table":
        return Table(some, rows)
    if kind == "ban":
        return Ban(some, rows)
    if kind == "sum":
        return Sum([(source.randint(-2, 2), name) for name in some], low=low, high=low + source.randint(0, 5))
    if kind == "ring":
        return Ring(random_edges(source, some, 3, low=-2, high=2))
    if kind == "unlike":
        return Unlike(some)
    return Counts(some, [(value, 0, source.randint(0, 2)) for value in source.sample(range(4), 2)])


def random_parts(source, most_names=4, most_rules=5, *, least=1):
    """Return domains with values from 0 to 3, and keyed rules, for a puzzle."""
    names = ["d", "a", "c", "b"][:source.randint(1, most_names)]
    domains = [(name, source.sample(range(4), source.randint(least, 4))) for name in names]
    rules = [(f"r{k}", random_rule(source, names)) for k in range(source.randint(0, most_rules))]
    return domains, rules


def hard_parts(source):
    """Return domains and keyed rules for a puzzle with two or three values, in which settling does not do much."""
    names = list("caebd")
    domains = [(name, source.sample(range(3), source.choice([2, 2, 3]))) for name in names]
    rules = []
    for number in range(source.randint(8, 14)):
        some = source.sample(names, 3)
        rows = [[source.choice(dict(domains)[name]) for name in some] for _ in range(source.randint(1, 3))]
        rule = Ban(some, rows)
        if source.random() < 0.15:
            rule = Sum([(source.choice([-1, 1, 2]), name) for name in some], high=source.randint(2, 5))
        elif source.random() < 0.1:
            rule = Counts(some, [(value, 0, 2) for value in range(3)])
        rules.append((f"r{number}", rule))
    return domains, rules


def random_assumptions(source, domains, most):
    assumptions = []
    for _ in range(source.randint(0, most)):
        name, values = source.choice(domains)
        assumptions.append((name, sorted(value for value in set(values) if source.random() < 0.7)))
    return assumptions


def slow_supported(rule, box, name):
    return sorted({values[name] for values in all_in(box, rule.names) if rule.allows(values)})


def slow_settled(domains, rules, assumptions=()):
    """Return the settled box, by striking single values until none has to go."""
    box = {name: sorted(set(values)) for name, values in domains}
    for name, side in assumptions:
        box[name] = [value for value in box[name] if value in side]
    changed = True
    while changed:
        changed = False
        for _, rule in rules:
            for name in rule.names:
                side = slow_supported(rule, box, name)
                changed = changed or side != box[name]
                box[name] = side
    if not all(box.values()):
        return {name: [] for name in box}
    return box


def slow_answers(domains, rules, box=None):
    form = {name: sorted(set(values)) for name, values in domains}
    answers = [values for values in all_in(form) if all(rule.allows(values) for _, rule in rules)]
    return [values for values in answers if held(box or {}, values)]


def break_of(edges, box, steps):
    """Return the place of the step at which a climb breaks, or None. Plain, word by word as point 18 says."""
    values = {name: min(box[name]) for first, second, _ in edges for name in (first, second)}
    for place, position in enumerate(steps):
        first, second, gap = edges[position]
        least = values[first] - gap
        if values[second] < least:
            further = [value for value in box[second] if value >= least]
            if not further:
                return place
            values[second] = min(further)
    return None


def random_edges(source, names, most, *, low=-3, high=3):
    edges = []
    for _ in range(source.randint(1, most)):
        edges.append((source.choice(names), source.choice(names), source.randint(low, high)))
    return edges


def meets(edges, values):
    return all(values[first] - values[second] <= gap for first, second, gap in edges)


def names_of(edges):
    return list(dict.fromkeys(name for first, second, _ in edges for name in (first, second)))
