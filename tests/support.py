"""What several test files need: a check of how functions treat arguments and results, and slow answers."""

import copy
import itertools
import random
import signal
import unittest

# Far more than any test needs; going through all assignments of a large box takes longer than that.
MOST_SECONDS = 90


def mutables(thing):
    """Return all lists and dictionaries in a thing, once for each place where they stand."""
    found = []
    if isinstance(thing, (list, dict)):
        found.append(thing)
    if isinstance(thing, dict):
        parts = list(thing.keys()) + list(thing.values())
    elif isinstance(thing, (list, tuple)):
        parts = list(thing)
    else:
        parts = []
    for part in parts:
        found.extend(mutables(part))
    return found


def spoil(thing):
    """Change all lists and dictionaries in a thing."""
    for part in mutables(thing):
        if isinstance(part, list):
            part.append("spoiled")
        else:
            part["spoiled"] = "spoiled"


class DeskCase(unittest.TestCase):
    """A test case that also looks at what a call does to its arguments and to what it has returned."""

    maxDiff = None

    def setUp(self):
        signal.signal(signal.SIGALRM, self.too_long)
        signal.alarm(MOST_SECONDS)
        self.addCleanup(signal.alarm, 0)

    def too_long(self, *_):
        raise AssertionError("the test takes too long")

    def ask(self, function, *args, **named):
        """Call, check point 2 of the document, and return the result."""
        kept = copy.deepcopy((args, named)) if not self.has_objects(args) else None
        result = function(*args, **named)
        if kept is not None:
            self.assertEqual((args, named), kept, "the arguments were changed")
        self.check_new(result, (args, named))
        expected = copy.deepcopy(result)
        spoil(result)
        again = function(*args, **named)
        self.assertEqual(again, expected, "asking twice gave two results")
        self.check_plain(again)
        return again

    def has_objects(self, args):
        plain = (int, str, list, tuple, dict, type(None))
        return not all(isinstance(arg, plain) for arg in args)

    def check_new(self, result, given):
        places = [id(part) for part in mutables(result)]
        self.assertEqual(len(places), len(set(places)), "a list or dictionary stands at two places")
        old = {id(part) for part in mutables(given)}
        self.assertFalse(old & set(places), "a list or dictionary of an argument was returned")

    def check_plain(self, thing, kinds=(int, str, bool, type(None))):
        """Check that numbers are plain integers, and True and False at most the whole result."""
        if isinstance(thing, dict):
            parts = list(thing.keys()) + list(thing.values())
        elif isinstance(thing, (list, tuple)):
            parts = list(thing)
        else:
            self.assertIn(type(thing), kinds)
            parts = []
        for part in parts:
            self.check_plain(part, (int, str, type(None)))

    def fails(self, error, attributes, function, *args, **named):
        """Check that a call raises exactly this error with these attributes, and changes no argument."""
        kept = copy.deepcopy((args, named)) if not self.has_objects(args) else None
        with self.assertRaises(ValueError) as caught:
            function(*args, **named)
        self.assertIs(type(caught.exception), error)
        self.assertEqual(vars(caught.exception), attributes)
        if kept is not None:
            self.assertEqual((args, named), kept, "the arguments were changed")
        return caught.exception


class RuleCase(DeskCase):
    """A test case that compares a rule with what a plain test of single assignments says of it."""

    # The words of the certificates of the kind of rule that is tested, besides "empty".
    words = ()

    def expected_word(self, rule, box):
        """Return the word of the certificate for a bare box without empty sides."""
        return self.words[0]

    def check_rule(self, rule, box, is_allowed):
        """Check the methods of points 14 and 15 for a box that is small enough to go through."""
        inside = all_in(box, rule.names)
        allowed = [values for values in inside if is_allowed(values)]
        for values in inside:
            self.assertIs(rule.allows(values), is_allowed(values))
        witness = self.ask(rule.witness, box)
        self.assertEqual(witness, allowed[0] if allowed else None)
        for name in rule.names:
            supported = sorted({values[name] for values in allowed})
            self.assertEqual(self.ask(rule.supported, box, name), supported)
        self.check_certificate(rule, box, bool(allowed))

    def check_certificate(self, rule, box, open_box):
        certificate = self.ask(rule.certificate, box)
        empty = [name for name in rule.names if not box[name]]
        if open_box:
            self.assertIsNone(certificate)
        elif empty:
            self.assertEqual(certificate, ("empty", empty[0]))
        else:
            self.assertEqual(certificate[0], self.expected_word(rule, box))
        if certificate is not None:
            self.assertIs(type(certificate), tuple)
            self.assertIs(self.ask(rule.accepts, box, certificate), True)
        for name in list(box) + ["nobody"]:
            accepted = self.ask(rule.accepts, box, ("empty", name))
            self.assertIs(accepted, name in rule.names and not box[name])
        self.check_words_of_others(rule, box)

    def check_words_of_others(self, rule, box):
        """No kind accepts a word of another kind, also not for a bare box or an empty side."""
        names = list(rule.names)
        contents = {
            "blame": [[], names, names[:1]],
            "full": [[], [0], [0, 1]],
            "layers": [[[]], [[0], []], [[0]] + [[] for _ in names], [[0], [1, 2]]],
            "climb": [[], [0]],
            "crowd": [[], names, names[:1], names[:2]],
            "want": [[], [0], [1]],
        }
        for word, samples in contents.items():
            for content in samples:
                if word not in self.words:
                    self.assertIs(rule.accepts(box, (word, content)), False, (word, content))


def all_in(box, names=None):
    """Return all assignments of the names that a box holds, in order. Slow, and plain."""
    if names is None:
        names = list(box)
    sides = [box[name] for name in names]
    return [dict(zip(names, values)) for values in itertools.product(*sides)]


def held(box, values):
    return all(values[name] in side for name, side in box.items())


def random_side(source, top, *, least=0):
    size = source.randint(least, top)
    return sorted(source.sample(range(-1, top), size))


def random_box(source, names, top, *, least=0):
    return {name: random_side(source, top, least=least) for name in names}


def seeded(number):
    return random.Random(number)


def wide_box(names=20, values=20):
    """Return a box at the full size of point 3: its assignments cannot be gone through."""
    return {f"n{number}": list(range(-5, values - 5)) for number in range(names)}


def break_of(edges, box, steps):
    """Return the place of the step at which a climb breaks, or None. Plain, word by word as point 18 says."""
    values = {name: min(box[name]) for first, second, _ in edges for name in (first, second)}
    for place, position in enumerate(steps):
        first, second, gap = edges[position]
        least = values[first] - gap
        if values[second] < least:
            further = [value for value in box[second] if value >= least]
            if not further:
                return place
            values[second] = min(further)
    return None


def random_edges(source, names, most, *, low=-3, high=3):
    edges = []
    for _ in range(source.randint(1, most)):
        edges.append((source.choice(names), source.choice(names), source.randint(low, high)))
    return edges


def meets(edges, values):
    return all(values[first] - values[second] <= gap for first, second, gap in edges)


def names_of(edges):
    return list(dict.fromkeys(name for first, second, _ in edges for name in (first, second)))
