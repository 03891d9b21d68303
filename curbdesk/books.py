"""Plain logs: what their lines rest on, and parts of them (point 37)."""

from curbdesk.boxes import copied_box
from curbdesk.errors import UnknownLine


def rests_on(lines, number):
    """Return the keys of the rules on which the line with this number rests."""
    used = [lines[each - 1] for each in _used_by(lines, number)]
    return sorted({line[2] for line in used if line[0] == "rule"})


def pruned(lines, number):
    """Return the line with this number and the lines that it uses."""
    return _picked(lines, _used_by(lines, number))


def without_key(lines, key):
    """Return the lines that do not rest on the key."""
    resting = set()
    others = []
    for number, line in enumerate(lines, start=1):
        if _is_of_rule(line, key) or line[0] == "join" and (line[3] in resting or line[4] in resting):
            resting.add(number)
        else:
            others.append(number)
    return _picked(lines, others)


def renumbered(lines, offset):
    """Return the lines, with the offset added to each number in a join line."""
    return [_with_numbers(line, line[3] + offset, line[4] + offset) if line[0] == "join" else copied_line(line)
            for line in lines]


def copied_line(line):
    """Return a new line of any kind that equals the line."""
    if line[0] == "answer":
        return ("answer", dict(line[1]))
    copy = (line[0], copied_box(line[1])) + line[2:]
    if line[0] != "rule":
        return copy
    word, content = line[3]
    return copy[:3] + ((word, _copied_content(word, content)),)


def _copied_content(word, content):
    if word == "empty":
        return content
    if word == "layers":
        return [list(layer) for layer in content]
    return list(content)


def _is_of_rule(line, key):
    return line[0] == "rule" and line[2] == key


def _used_by(lines, number):
    """Return the number, and those of the lines that the line uses, in ascending order."""
    if number < 1 or number > len(lines):
        raise UnknownLine(number)
    used = {number}
    # A line uses earlier lines only.
    for each in reversed(range(1, number + 1)):
        line = lines[each - 1]
        if each in used and line[0] == "join":
            used.add(line[3])
            used.add(line[4])
    return sorted(used)


def _picked(lines, numbers):
    """Return the lines with these numbers, which ascend; the lines that they name are among them."""
    places = {number: place for place, number in enumerate(numbers, start=1)}
    picked = [lines[number - 1] for number in numbers]
    return [_with_numbers(line, places[line[3]], places[line[4]]) if line[0] == "join" else copied_line(line)
            for line in picked]


def _with_numbers(line, first, second):
    """Return the join line with other numbers in it."""
    return ("join", copied_box(line[1]), line[2], first, second)
