"""Settling: striking what no rule supports, with assumptions and reasons (points 23 to 26)."""

from curbdesk.errors import NotStruck
from curbdesk.puzzles import check_sides
from curbdesk.store import Store


def settled_box(puzzle, *, assumptions=None):
    """Return the settled box of the puzzle under the assumptions."""
    settler = Settler(puzzle)
    return settler.probe([] if assumptions is None else assumptions)


class Settler:
    """What reaches the settled box of a puzzle step by step."""

    def __init__(self, puzzle):
        self._puzzle = puzzle
        # The note of a strike by a rule is the rule's key and the length of the trail when the run began.
        self._store = Store(puzzle.domains())
        self._waits = {key: True for key in puzzle.rule_keys}
        self._earlier_waits = []
        self._clashed = self._has_empty_side()

    @property
    def clashed(self):
        """True while at least one side is empty."""
        return self._clashed

    @property
    def level(self):
        """The number of assumptions in force."""
        return self._store.level

    def box(self):
        """Return all sides, or an empty side for each name while the settler is clashed."""
        if self._clashed:
            return {name: [] for name in self._puzzle.names}
        return self._store.box()

    def waiting(self):
        """Return the keys of the rules that wait, in the order of the puzzle."""
        if self._clashed:
            return []
        return [key for key in self._puzzle.rule_keys if self._waits[key]]

    def run(self, key):
        """Run the rule with this key and return the pairs of name and value that it strikes."""
        rule = self._puzzle.rule(key)
        if self._clashed:
            return []
        begin = len(self._store.trail())
        box = self._store.box()
        struck = []
        for name in rule.names:
            # If the rule allows nothing, its first name loses all values, and the run stops there.
            if not self._clashed and self._store.keep(name, rule.supported(box, name), note=(key, begin)) > 0:
                struck.append(name)
                self._clashed = self._has_empty_side()
        self._wake(struck)
        self._waits[key] = False
        return [(name, value) for name, value, _ in self._store.trail()[begin:]]

    def settle(self, *, order=None):
        """Run rules that wait until none does, and tell whether the settler is not clashed then."""
        ranked = [] if order is None else list(order)
        for key in ranked:
            self._puzzle.rule(key)
        ranked.extend(self._puzzle.rule_keys)
        key = self._first_waiting(ranked)
        while key is not None:
            self.run(key)
            key = self._first_waiting(ranked)
        return not self._clashed

    def assume(self, name, side):
        """Assume that the name takes a value of the side, and return the new level."""
        check_sides(self._puzzle, [(name, side)])
        self._raise_level()
        if not self._clashed and self._store.keep(name, side) > 0:
            self._clashed = self._has_empty_side()
            self._wake([name])
        return self.level

    def back_to(self, level):
        """Take back everything that has happened since the level was last raised from this one."""
        present = self.level
        self._store.back_to(level)
        if level < present:
            self._waits = self._earlier_waits[level]
            del self._earlier_waits[level:]
            self._clashed = self._has_empty_side()

    def probe(self, assumptions):
        """Return the box after these assumptions and settling; nothing changes."""
        check_sides(self._puzzle, assumptions)
        level = self.level
        self._raise_level()
        for name, side in assumptions:
            self.assume(name, side)
        self.settle()
        box = self.box()
        self.back_to(level)
        return box

    def trail(self):
        """Return the strikes in order, as triples of name, value and the rule's key or None."""
        return [(name, value, None if note is None else note[0]) for name, value, note in self._store.trail()]

    def reason(self, name, value):
        """Return the key of the rule that struck the value and a box that is bare under it, or two None."""
        place = self._store.place(name, value)
        if place is None:
            raise NotStruck(name, value)
        note = self._store.trail()[place][2]
        if note is None:
            return (None, None)
        key, begin = note
        box = {other: self._side_at(other, begin) for other in self._puzzle.rule(key).names}
        box[name] = [value]
        return (key, box)

    def _raise_level(self):
        self._earlier_waits.append(dict(self._waits))
        self._store.mark()

    def _has_empty_side(self):
        return any([len(self._store.side(name)) == 0 for name in self._puzzle.names])

    def _wake(self, names):
        """Let every rule wait that has one of the names."""
        for key in self._puzzle.rule_keys:
            if any([name in names for name in self._puzzle.rule(key).names]):
                self._waits[key] = True

    def _first_waiting(self, keys):
        """Return the first of the keys whose rule waits, or None."""
        waiting = self.waiting()
        for key in keys:
            if key in waiting:
                return key
        return None

    def _side_at(self, name, length):
        """Return the side that the name had when the trail was so long."""
        side = []
        for value in self._puzzle.domain(name):
            place = self._store.place(name, value)
            if place is None or place >= length:
                side.append(value)
        return side
