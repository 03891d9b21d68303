"""Writing logs: lines for reasons, and joins back through strikes."""

from curbdesk.boxes import copied_box, join_boxes


class Scribe:
    """What writes the lines of a log of a puzzle."""

    def __init__(self, puzzle):
        self._puzzle = puzzle
        # The numbers of the lines for reasons, so that each is written once.
        self._numbers = {}
        self.lines = []

    def write(self, line):
        """Write the line and return its number."""
        self.lines.append(line)
        return len(self.lines)

    def close(self, start, strikes, target):
        """Write the line `start`, and from its box joins with the reasons of the strikes, the last one first.

        The last line gets the target as its box: what it lacked before was struck by assumption, and lies outside of
        the target. Its number is returned.
        """
        box = start[1]
        number = self.write(start)
        for name, value, source, sides in reversed(strikes):
            if source is not None and name in box and value not in box[name]:
                reason = copied_box({**sides, name: [value]})
                other = self._number_of(source, reason)
                box = join_boxes(box, reason, name)
                number = self.write(("join", box, name, number, other))
        last = self.lines[number - 1]
        self.lines[number - 1] = (last[0], copied_box(target)) + last[2:]
        return number

    def _number_of(self, source, box):
        """Return the number of the line that concludes the box of a strike from this source."""
        word, what = source
        if word == "line":
            return what
        case = (source, tuple([(name, tuple(side)) for name, side in box.items()]))
        if case not in self._numbers:
            line = ("worse", box) if word == "worse" else ("rule", box, what, self._puzzle.rule(what).certificate(box))
            self._numbers[case] = self.write(line)
        return self._numbers[case]
