"""Reading logs line by line, with faults for the lines that are not accepted (points 32, 34 and 35)."""

from curbdesk.boxes import box_within, copied_box, filled, join_boxes
from curbdesk.errors import BadLine, UnknownLine
from curbdesk.rules import first_empty
from curbdesk.sides import is_within, without
from curbdesk.worths import best_in, checked_worth, is_better, worth_of


def check_log(puzzle, lines, *, worth=None, greatest=False):
    """Read all lines, and return whether the checker is closed then, and the told answers."""
    checker = Checker(puzzle, worth=worth, greatest=greatest)
    for line in lines:
        checker.read(line)
    return (checker.is_closed, checker.told_answers())


class Checker:
    """What reads lines for one puzzle, and accepts those that follow from the puzzle and the lines before."""

    def __init__(self, puzzle, *, worth=None, greatest=False):
        self._puzzle = puzzle
        self._worth = None if worth is None else checked_worth(puzzle, worth)
        self._greatest = greatest
        # The filled forms of the lines' boxes, with None for an answer line.
        self._boxes = []
        self._answers = []
        self._best = None
        self._closed = False

    @property
    def size(self):
        """The number of accepted lines."""
        return len(self._boxes)

    @property
    def is_closed(self):
        """True if the box of some accepted line consists of the whole domains."""
        return self._closed

    @property
    def best_worth(self):
        """The worth of the answer told last; None without a worth or an answer."""
        return self._best

    def read(self, line):
        """Accept the line and return its number."""
        number = self.size + 1
        fault = self._fault(line)
        if fault is not None:
            raise BadLine(number, fault)
        if line[0] == "answer":
            self._tell(line[1])
        else:
            box = filled(line[1], self._puzzle.domains())
            self._boxes.append(box)
            self._closed = self._closed or box == self._puzzle.box()
        return number

    def box_of(self, number):
        """Return the filled form of the box of the line with this number."""
        if not has_box(self._boxes, number):
            raise UnknownLine(number)
        return copied_box(self._boxes[number - 1])

    def told_answers(self):
        """Return the told answers in order."""
        return [dict(values) for values in self._answers]

    def _tell(self, values):
        self._boxes.append(None)
        self._answers.append(dict(values))
        if self._worth is not None:
            self._best = worth_of(self._worth, values)

    def _fault(self, line):
        """Return the word for the first condition that the line fails, or None."""
        if line[0] == "answer":
            return None if self._is_new_answer(line[1]) else "answer"
        if line[0] != "told" and line[0] != "worse":
            return plain_fault(self._puzzle, self._boxes, line)
        if strays(self._puzzle, line[1]):
            return "box"
        box = filled(line[1], self._puzzle.domains())
        if line[0] == "told":
            return self._told_fault(box, line[2])
        return None if self._is_worse(box) else "worse"

    def _is_new_answer(self, values):
        """Tell whether this is an answer that has not been told, or one that is better than all told ones."""
        if not self._puzzle.allows(values):
            return False
        if self._worth is None:
            return values not in self._answers
        # Each told answer is better than those before it.
        return self._best is None or is_better(worth_of(self._worth, values), self._best, self._greatest)

    def _told_fault(self, box, number):
        if number < 1 or number > len(self._answers):
            return "number"
        values = self._answers[number - 1]
        return "told" if any([len(without(box[name], [values[name]])) > 0 for name in self._puzzle.names]) else None

    def _is_worse(self, box):
        """Tell whether no choice of values for the worth's names is better than all told answers."""
        if self._best is None or first_empty([name for _, name in self._worth], box) is not None:
            return False
        return not is_better(best_in(self._worth, box, greatest=self._greatest), self._best, self._greatest)


def plain_fault(puzzle, boxes, line):
    """Return the word for what is wrong with a void, rule or join line, or None.

    The boxes are those of the lines before it, filled or not, with None for a line without a box.
    """
    if strays(puzzle, line[1]):
        return "box"
    box = filled(line[1], puzzle.domains())
    if line[0] == "void":
        return _void_fault(box, line[2])
    if line[0] == "rule":
        return _rule_fault(puzzle, box, line[2], line[3])
    return _join_fault(puzzle, boxes, box, line)


def strays(puzzle, box):
    """Tell whether the box lists a name that the puzzle lacks, or a value that the name's domain lacks."""
    return not all([name in puzzle and is_within(side, puzzle.domain(name)) for name, side in box.items()])


def has_box(boxes, number):
    """Tell whether there is a box at this number, from 1."""
    return 1 <= number and number <= len(boxes) and boxes[number - 1] is not None


def _void_fault(box, name):
    if name not in box:
        return "name"
    return "void" if len(box[name]) > 0 else None


def _rule_fault(puzzle, box, key, certificate):
    if key not in puzzle.rule_keys:
        return "key"
    return None if puzzle.rule(key).accepts(box, certificate) else "certificate"


def _join_fault(puzzle, boxes, box, line):
    _, _, name, first, second = line
    if name not in puzzle:
        return "name"
    if not has_box(boxes, first) or not has_box(boxes, second):
        return "number"
    domains = puzzle.domains()
    joined = join_boxes(filled(boxes[first - 1], domains), filled(boxes[second - 1], domains), name)
    return None if box_within(box, joined) else "join"
