"""The text of lines and of logs (point 36)."""

from curbdesk.errors import BadText

LETTERS = "abcdefghijklmnopqrstuvwxyz"
SIGNS = "abcdefghijklmnopqrstuvwxyz0123456789_"
MOST_SIGNS = 20
MOST_DIGITS = 30

# For each kind of line, the number of its parts before the colon.
HEADS = {"void": 2, "rule": 4, "join": 4, "answer": 1, "told": 2, "worse": 1}


def line_text(line):
    """Return the text of the line."""
    kind = line[0]
    if kind == "answer":
        return "answer : " + _box_text({name: [value] for name, value in line[1].items()})
    parts = list(line[2:])
    if kind == "rule":
        key, (word, content) = parts
        parts = [key, word, _content_text(word, content)]
    return " ".join([kind] + [str(part) for part in parts] + [":", _box_text(line[1])])


def parse_line(text):
    """Return the line whose text it is given."""
    parts = text.split(" ")
    kind = parts[0]
    _require(kind in HEADS)
    colon = HEADS[kind]
    _require(len(parts) > colon + 1 and parts[colon] == ":")
    box = _parsed_box(parts[colon + 1:])
    if kind == "answer":
        _require(all([len(side) == 1 for side in box.values()]))
        return (kind, {name: side[0] for name, side in box.items()})
    return (kind, box) + _parsed_head(kind, parts[1:colon])


def log_text(lines):
    """Return the text of a log with these lines."""
    return "".join([line_text(line) + "\n" for line in lines])


def parse_log(text):
    """Return the lines of the log whose text it is given."""
    rows = text.split("\n")
    lines = []
    for number, row in enumerate(rows[:-1], start=1):
        try:
            lines.append(parse_line(row))
        except BadText:
            raise BadText(number) from None
    if rows[-1] != "":
        # The last line has no line feed behind it.
        raise BadText(len(rows))
    return lines


def _box_text(box):
    return " ".join([f"{name}={_list_text(box[name])}" for name in sorted(box)]) if len(box) > 0 else "*"


def _list_text(entries):
    return ",".join([str(entry) for entry in entries]) if len(entries) > 0 else "*"


def _content_text(word, content):
    if word == "empty":
        return content
    if word == "layers":
        return ";".join([_list_text(layer) for layer in content])
    return _list_text(content)


def _require(holds):
    if not holds:
        raise BadText(1)


def _parsed_head(kind, parts):
    """Return what stands in a line of this kind behind its box."""
    if kind == "void":
        return (_parsed_name(parts[0]),)
    if kind == "rule":
        return (_parsed_name(parts[0]), (parts[1], _parsed_content(parts[1], parts[2])))
    if kind == "join":
        return (_parsed_name(parts[0]), _parsed_integer(parts[1]), _parsed_integer(parts[2]))
    # What is left is a told line with its number, or a worse line with nothing.
    return tuple([_parsed_integer(part) for part in parts])


def _parsed_content(word, text):
    """Return the content of a certificate with this word."""
    if word == "empty":
        return _parsed_name(text)
    if word == "blame" or word == "crowd":
        return _parsed_list(text, _parsed_name)
    if word == "layers":
        return [_parsed_side(part) for part in text.split(";")]
    _require(word in ("full", "climb", "want"))
    return _parsed_list(text, _parsed_integer)


def _parsed_box(parts):
    box = {}
    if parts == ["*"]:
        return box
    for part in parts:
        # Without a sign "=" nothing is left for the values, which is no side.
        name, _, values = part.partition("=")
        box[_parsed_name(name)] = _parsed_side(values)
    # A name that occurs twice makes the box shorter than its parts.
    _require(list(box) == sorted(box) and len(box) == len(parts))
    return box


def _parsed_side(text):
    side = _parsed_list(text, _parsed_integer)
    _require(side == sorted(set(side)))
    return side


def _parsed_list(text, parse):
    return [] if text == "*" else [parse(part) for part in text.split(",")]


def _parsed_name(text):
    _require(1 <= len(text) and len(text) <= MOST_SIGNS and text[0] in LETTERS)
    _require(all([sign in SIGNS for sign in text]))
    return text


def _parsed_integer(text):
    digits = text.removeprefix("-")
    _require(digits.isdecimal() and len(digits) <= MOST_DIGITS)
    number = int(text)
    # Leading zeros and a zero with a sign in front are not written back as they stand here.
    _require(str(number) == text)
    return number
