import copy
import re
import unittest

from curbdesk.errors import BadText
from curbdesk.notation import line_text, log_text, parse_line, parse_log
from tests.support import DeskCase, seeded, spoil

# Lines and their texts.
PAIRS = [
    (("void", {"x": [], "b": [1]}, "x"), "void x : b=1 x=*"),
    (("rule", {"y": [2], "x": [1, 3]}, "r1", ("blame", ["x", "y"])), "rule r1 blame x,y : x=1,3 y=2"),
    (("rule", {"x": []}, "r", ("empty", "x")), "rule r empty x : x=*"),
    (("rule", {}, "r", ("blame", [])), "rule r blame * : *"),
    (("rule", {}, "r", ("crowd", ["y", "x", "y"])), "rule r crowd y,x,y : *"),
    (("rule", {}, "r", ("crowd", [])), "rule r crowd * : *"),
    (("rule", {}, "r", ("full", [3, 0, -1, 3])), "rule r full 3,0,-1,3 : *"),
    (("rule", {}, "r", ("climb", [0])), "rule r climb 0 : *"),
    (("rule", {}, "r", ("want", [])), "rule r want * : *"),
    (("rule", {}, "r", ("layers", [[0], [-2, 4], []])), "rule r layers 0;-2,4;* : *"),
    (("rule", {}, "r", ("layers", [[]])), "rule r layers * : *"),
    (("rule", {}, "r", ("layers", [[], []])), "rule r layers *;* : *"),
    (("join", {}, "x", 1, 2), "join x 1 2 : *"),
    (("join", {"x": [-5, 0]}, "x", -1, 0), "join x -1 0 : x=-5,0"),
    (("answer", {}), "answer : *"),
    (("answer", {"y": -2, "x": 0}), "answer : x=0 y=-2"),
    (("told", {"x": [1]}, 7), "told 7 : x=1"),
    (("told", {}, -7), "told -7 : *"),
    (("worse", {"x": []}), "worse : x=*"),
    (("worse", {"x_1": [10 ** 12], "x": [-10 ** 12], "a9": []}), f"worse : a9=* x={-10 ** 12} x_1={10 ** 12}"),
]
LONG = "a" * 20
DIGITS = "9" * 30


def pattern():
    """Return a regular expression for the form of a line, as point 36 tells it; orders of parts are left out."""
    name = "[a-z][a-z0-9_]{0,19}"
    integer = "(?:0|-?[1-9][0-9]{0,29})"
    side = rf"(?:\*|{integer}(?:,{integer})*)"
    names = rf"(?:\*|{name}(?:,{name})*)"
    box = rf"(?:\*|{name}={side}(?: {name}={side})*)"
    values = rf"(?:\*|{name}={integer}(?: {name}={integer})*)"
    content = (rf"(?:empty {name}|(?:blame|crowd) {names}|(?:full|climb|want) {side}|layers {side}(?:;{side})*)")
    return re.compile(
        rf"\A(?:void {name} : {box}|rule {name} {content} : {box}|join {name} {integer} {integer} : {box}|"
        rf"answer : {values}|told {integer} : {box}|worse : {box})\Z"
    )


def is_line(text):
    """Tell whether this is the text of a line. Slow, and not the way of the program."""
    if not pattern().match(text):
        return False
    head, body = text.split(" : ")
    listed = [part.partition("=") for part in body.split(" ") if part != "*"]
    names = [name for name, _, _ in listed]
    sides = [values for _, _, values in listed]
    if " layers " in head + " " and head.startswith("rule ") and head.split(" ")[2] == "layers":
        sides.extend(head.split(" ")[3].split(";"))
    numbers = [[int(value) for value in side.split(",")] for side in sides if side != "*"]
    return names == sorted(set(names)) and all(side == sorted(set(side)) for side in numbers)


class NotationCase(DeskCase):
    def refuses(self, text):
        self.fails(BadText, {"number": 1}, parse_line, text)
        self.fails(BadText, {"number": 1}, parse_log, text + "\n")
        self.fails(BadText, {"number": 3}, parse_log, "worse : *\nvoid x : x=*\n" + text + "\nworse : *\n")


class LineTest(NotationCase):
    def test_examples(self):
        self.assertEqual(line_text(("rule", {"y": [2], "x": [1, 3]}, "r1", ("blame", ["x", "y"]))),
                         "rule r1 blame x,y : x=1,3 y=2")
        self.assertEqual(parse_line("join x 1 2 : *"), ("join", {}, "x", 1, 2))

    def test_both_ways(self):
        for line, text in PAIRS:
            self.assertEqual(self.ask(line_text, line), text)
            parsed = self.ask(parse_line, text)
            self.assertEqual(parsed, line)
            self.assertIs(type(parsed), tuple)
            if line[0] == "rule":
                self.assertIs(type(parsed[3]), tuple)

    def test_longest_names_and_integers(self):
        for line, text in (
            (("void", {LONG: [int(DIGITS)]}, LONG), f"void {LONG} : {LONG}={DIGITS}"),
            (("void", {"x": [-int(DIGITS)]}, "x"), f"void x : x=-{DIGITS}"),
            (("rule", {}, LONG, ("crowd", [LONG])), f"rule {LONG} crowd {LONG} : *"),
            (("rule", {}, "r", ("layers", [[-int(DIGITS)]])), f"rule r layers -{DIGITS} : *"),
            (("rule", {}, "r", ("full", [int(DIGITS)])), f"rule r full {DIGITS} : *"),
            (("rule", {}, "r", ("empty", LONG)), f"rule r empty {LONG} : *"),
            (("join", {}, "x", int(DIGITS), -int(DIGITS)), f"join x {DIGITS} -{DIGITS} : *"),
            (("told", {}, int(DIGITS)), f"told {DIGITS} : *"),
            (("answer", {LONG: int(DIGITS)}), f"answer : {LONG}={DIGITS}"),
        ):
            self.assertEqual(line_text(line), text)
            self.assertEqual(parse_line(text), line)
            self.refuses(text.replace(DIGITS, DIGITS + "0").replace(LONG, LONG + "a"))
            for number in range(text.count(DIGITS)):
                parts = text.split(DIGITS)
                self.refuses(DIGITS.join(parts[:number + 1]) + "1" + DIGITS + DIGITS.join(parts[number + 1:]))
            for number in range(text.count(LONG)):
                parts = text.split(LONG)
                self.refuses(LONG.join(parts[:number + 1]) + "a" + LONG + LONG.join(parts[number + 1:]))

    def test_huge_integers(self):
        for digits in (31, 5000, 20000):
            self.refuses("told " + "7" * digits + " : *")
            self.refuses("worse : x=-" + "7" * digits)
            self.refuses("told " + "0" * digits + " : *")

    def test_integers(self):
        for word in ("-0", "+1", "01", "-01", "00", "", "-", "--1", "1.0", "1e3", "0x1", "1_0", "x", "*", "1 ", "1-"):
            for text in ("told {} : *", "join x {} 1 : *", "join x 1 {} : *", "answer : x={}", "rule r full 5,{} : *",
                         "rule r layers 0;5,{} : *", "worse : x={},5"):
                self.refuses(text.replace("{}", word))
        for word in ("-0", "+1", "01", "-01", ""):
            self.refuses(f"worse : x={word}")
            self.refuses(f"rule r layers {word} : *")
            self.refuses(f"rule r want {word} : *")

    def test_names(self):
        for word in ("", "1", "1a", "_", "_a", "A", "aB", "a-b", "a.b", "*", "a,", "x,y", "x=1", ":", "a ", LONG + "a"):
            for text in ("void {} : x=*", "rule {} climb 0 : *", "join {} 1 2 : *", "worse : {}=1", "answer : {}=1",
                         "rule r empty {} : *", "rule r blame x,{} : *", "rule r crowd {},x : *"):
                if is_line(text.replace("{}", word)):
                    continue
                self.refuses(text.replace("{}", word))

    def test_words(self):
        for text in (
            "", " ", ":", "*", "void", "void x", "void x :", "void x : ", "void :", "void : *", "void x y : *", "vide x : *",
            "Void x : *", "told : *", "told x : *", "told 1 2 : *", "worse", "worse :", "worse x : *", "worse : * *",
            "answer", "answer :", "answer x : *", "answer : x", "answer : x=*", "answer : x=1,2", "answer : * x=1",
            "join x 1 : *", "join x 1 2 3 : *", "join 1 2 : *", "join x y 2 : *", "rule r : *", "rule r climb : *",
            "rule r 0 : *", "rule climb 0 : *", "rule r climbs 0 : *", "rule r void x : *", "rule r climb 0 1 : *",
            "rule r empty * : *", "rule r empty x,y : *", "rule r climb x : *", "rule r blame 1 : *", "rule r  : *",
            "rule r full 0;1 : *", "rule r want 1,, : *", "rule r layers ; : *", "rule r layers 0; : *",
            "rule r layers ;0 : *", "rule r layers 0,* : *", "rule r layers 1,0 : *", "rule r layers 0;1,1 : *",
            "rule r blame , : *", "rule r blame x, : *", "rule r crowd ,x : *", "rule r crowd *,x : *",
            "void x ; *", "void x:*", "void x : x", "void x : x=", "void x : =1", "void x : x==1", "void x : x=1=2",
            "void x : x=*,1", "void x : x=**", "void x : x=1;2", "void x : x=1, 2", "void x : x = 1",
            "told 1 : : *", "worse : : x=1", "void x : void", "comment", "# worse : *", "worse : *;",
        ):
            self.assertFalse(is_line(text), text)
            self.refuses(text)

    def test_order(self):
        for text in (
            "worse : y=1 x=1", "worse : x=1 x=1", "worse : x=1 x=2", "worse : x=2,1", "worse : x=1,1", "worse : x=1,2,2",
            "worse : x=-1,-2", "worse : a=1 c=1 b=1", "worse : x=1 x1=1 x=2", "worse : x_=1 x0=1", "answer : y=1 x=1",
            "answer : x=1 x=1", "answer : x=1 x=2", "worse : x=10,9", "rule r layers 2,1 : *",
        ):
            self.refuses(text)
        self.assertEqual(parse_line("worse : x=1 x0=1 x_=1 xa=1"), ("worse", {"x": [1], "x0": [1], "x_": [1], "xa": [1]}))
        self.assertEqual(parse_line("worse : x=-10,-9,9,10"), ("worse", {"x": [-10, -9, 9, 10]}))

    def test_spaces_and_line_feeds(self):
        for _, text in PAIRS:
            for place, sign in enumerate(text):
                if sign == " ":
                    self.refuses(text[:place] + " " + text[place:])
                    self.refuses(text[:place] + text[place + 1:])
            for more in (" ", "\n"):
                self.fails(BadText, {"number": 1}, parse_line, text + more)
                self.fails(BadText, {"number": 1}, parse_line, more + text)
            self.fails(BadText, {"number": 1}, parse_line, text + "\n" + text)
            self.fails(BadText, {"number": 1}, parse_line, text.replace(" ", "\n"))
        self.fails(BadText, {"number": 1}, parse_line, "worse : x=1\n,2")
        self.fails(BadText, {"number": 1}, parse_line, "void x\n : *")
        self.fails(BadText, {"number": 1}, parse_line, "\n")

    def test_changed_texts(self):
        """Change single characters of texts: what is still the text of a line reads as one that gives this text."""
        source = seeded(90)
        signs = " *,;:=-+_0123axyzr\n~A"
        right = 0
        for _ in range(6000):
            text = source.choice(PAIRS)[1]
            for _ in range(source.choice([1, 1, 2])):
                place = source.randint(0, len(text))
                text = text[:place] + source.choice(["", source.choice(signs)]) + text[place + source.randint(0, 1):]
            if is_line(text):
                right += 1
                self.assertEqual(line_text(parse_line(text)), text)
            else:
                self.fails(BadText, {"number": 1}, parse_line, text)
        self.assertGreater(right, 300)

    def test_nothing_is_shared(self):
        for line, text in PAIRS:
            given = copy.deepcopy(line)
            spoil(parse_line(text))
            self.assertEqual(line_text(given), text)
            self.assertEqual(given, line)
        first, second = parse_log("rule r layers 0;0 : x=0\n" * 2)
        spoil(first)
        self.assertEqual(second, ("rule", {"x": [0]}, "r", ("layers", [[0], [0]])))


class LogTest(NotationCase):
    def test_both_ways(self):
        lines = [line for line, _ in PAIRS]
        text = "".join(text + "\n" for _, text in PAIRS)
        self.assertEqual(self.ask(log_text, lines), text)
        self.assertEqual(self.ask(parse_log, text), lines)

    def test_without_lines(self):
        self.assertEqual(self.ask(log_text, []), "")
        self.assertEqual(self.ask(parse_log, ""), [])

    def test_numbers(self):
        good = "worse : *"
        for rows in range(4):
            text = (good + "\n") * rows
            self.fails(BadText, {"number": rows + 1}, parse_log, text + "worse\n" + text)
            self.fails(BadText, {"number": rows + 1}, parse_log, text + "\n" + text)
            self.fails(BadText, {"number": rows + 1}, parse_log, text + good)
            self.fails(BadText, {"number": rows + 1}, parse_log, text + "worse")
            self.fails(BadText, {"number": rows + 1}, parse_log, text + good + " \n" + good)
        self.fails(BadText, {"number": 1}, parse_log, "worse\nworse : *\nworse")
        self.fails(BadText, {"number": 2}, parse_log, "worse : *\nworse : *")
        self.fails(BadText, {"number": 1}, parse_log, " ")
        self.fails(BadText, {"number": 1}, parse_log, "\n")

    def test_many_lines(self):
        names = [f"n{number}" for number in range(8)]
        line = ("rule", {name: list(range(9)) for name in names}, "r", ("layers", [[0]] + [list(range(60))] * 10))
        lines = [line] * 2000
        self.assertEqual(parse_log(log_text(lines)), lines)
        wide = ("rule", {}, "r", ("layers", [list(range(4096))] * 8))
        self.assertEqual(parse_line(line_text(wide)), wide)


if __name__ == "__main__":
    unittest.main()
