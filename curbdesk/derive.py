"""Plain logs for clashes, for strikes and for closed boxes (point 38)."""

from curbdesk.books import pruned
from curbdesk.boxes import copied_box, meet_boxes
from curbdesk.cores import check_closed
from curbdesk.courses import Course
from curbdesk.errors import NoClash, NotStruck
from curbdesk.puzzles import check_sides
from curbdesk.roots import lacks
from curbdesk.scribes import Scribe


def clash_lines(puzzle, assumptions):
    """Return a log whose last line closes the meet of the assumptions, under which the puzzle clashes."""
    check_sides(puzzle, assumptions)
    course = Course(puzzle)
    start = course.run(assumptions)
    if start is None:
        raise NoClash()
    target = {}
    for name, side in assumptions:
        target = meet_boxes(target, {name: side})
    scribe = Scribe(puzzle)
    scribe.close(start, course.strikes, target)
    return _up_to(scribe.lines, target)


def strike_lines(puzzle, assumptions, name, value):
    """Return a log whose last line closes the meet of the assumptions and of the value that they strike."""
    check_sides(puzzle, assumptions)
    check_sides(puzzle, [(name, [value])])
    if not lacks(puzzle, assumptions, name, value):
        raise NotStruck(name, value)
    # Without this value there is none left for the name, so the puzzle clashes if it is assumed.
    return clash_lines(puzzle, assumptions + [(name, [value])])


def closing_lines(puzzle, box):
    """Return a log whose last line closes the box, which holds no answer."""
    check_closed(puzzle, box)
    scribe = Scribe(puzzle)
    _close(Course(puzzle), scribe, box)
    return _up_to(scribe.lines, box)


def _close(course, scribe, box):
    """Write lines up to one that closes the box, and return its number."""
    start = course.run(list(box.items()))
    strikes = course.strikes
    if start is None:
        start = _last_case(course, scribe, box)
    return scribe.close(start, strikes, box)


def _last_case(course, scribe, box):
    """Write lines that close the box with each value of a name, and return the line that joins the last of them."""
    name = [each for each, values in course.sides.items() if len(values) > 1][0]
    side = course.sides[name]
    number = _close(course, scribe, {**box, name: [side[0]]})
    join = None
    for place in range(1, len(side)):
        if join is not None:
            number = scribe.write(join)
        other = _close(course, scribe, {**box, name: [side[place]]})
        join = ("join", copied_box({**box, name: side[:place + 1]}), name, number, other)
    return join


def _up_to(lines, box):
    """Return the first line with this box, and the lines that it uses."""
    first = [number for number, line in enumerate(lines, start=1) if line[1] == box][0]
    return pruned(lines, first)
