"""The interface: each name stands in the file under which it is listed, with the listed arguments."""

import ast
import importlib
import inspect
import pathlib
import unittest

PACKAGE = pathlib.Path(__file__).resolve().parent.parent / "curbdesk"

SEARCH = "order=None, greatest_first=False, learn=True, restart_after=0"

FUNCTIONS = {
    "sides": {
        "side_of": "(values)",
        "common": "(first, second)",
        "united": "(first, second)",
        "without": "(first, second)",
        "is_within": "(first, second)",
        "next_value": "(side, least)",
    },
    "boxes": {
        "room": "(box)",
        "holds": "(box, values)",
        "box_within": "(inner, outer)",
        "filled": "(box, domains)",
        "trimmed": "(box, domains)",
        "meet_boxes": "(first, second)",
        "join_boxes": "(first, second, name)",
    },
    "ranks": {
        "assignment_at": "(domains, number)",
        "number_of": "(domains, values)",
    },
    "joins": {
        "covered_by_two": "(first, second, box)",
        "join_back": "(domains, trail, name)",
    },
    "plans": {
        "join_plan": "(boxes, target)",
        "run_plan": "(boxes, steps)",
    },
    "largest": {
        "largest_boxes": "(boxes)",
    },
    "layers": {
        "sum_layers": "(terms, box)",
        "live_layers": "(terms, box, *, low=None, high=None)",
    },
    "climbs": {
        "least_climb": "(edges, box)",
    },
    "cycles": {
        "loosest": "(edges)",
    },
    "fits": {
        "full_fit": "(box, highs)",
        "wanted_fit": "(box, lows)",
        "merged_fit": "(full, part)",
    },
    "settle": {
        "settled_box": "(puzzle, *, assumptions=None)",
    },
    "orders": {
        "checked_order": "(puzzle, order)",
        "precedes": "(first, second, order, *, greatest_first=False)",
        "in_order": "(answers, order, *, greatest_first=False)",
    },
    "plain": {
        "plain_answers": "(puzzle, *, box=None)",
    },
    "reasons": {
        "widest_bare": "(rule, box, *, limits)",
        "least_reason": "(rule, box, name, value, *, limits)",
    },
    "roots": {
        "clashes": "(puzzle, assumptions)",
        "least_clash": "(puzzle, assumptions)",
        "least_roots": "(puzzle, assumptions, name, value)",
    },
    "cores": {
        "least_rules": "(puzzle, box)",
        "widest_closed": "(puzzle, box)",
    },
    "worths": {
        "checked_worth": "(puzzle, worth)",
        "worth_of": "(worth, values)",
        "best_in": "(worth, box, *, greatest=False)",
    },
    "checker": {
        "check_log": "(puzzle, lines, *, worth=None, greatest=False)",
    },
    "notation": {
        "line_text": "(line)",
        "parse_line": "(text)",
        "log_text": "(lines)",
        "parse_log": "(text)",
    },
    "books": {
        "rests_on": "(lines, number)",
        "pruned": "(lines, number)",
        "without_key": "(lines, key)",
        "renumbered": "(lines, offset)",
    },
    "derive": {
        "clash_lines": "(puzzle, assumptions)",
        "strike_lines": "(puzzle, assumptions, name, value)",
        "closing_lines": "(puzzle, box)",
    },
    "answers": {
        "first_answer": f"(puzzle, *, {SEARCH})",
        "all_answers": f"(puzzle, *, {SEARCH})",
    },
    "best": {
        "best_answer": f"(puzzle, worth, *, greatest=False, {SEARCH})",
    },
}

# Stands in the place of a signature.
PROPERTY = "a property"

RULE_METHODS = {
    "allows": "(self, values)",
    "witness": "(self, box)",
    "supported": "(self, box, name)",
    "certificate": "(self, box)",
    "accepts": "(self, box, certificate)",
}

CLASSES = {
    "errors": {
        "DeskError": None,
        "UnknownName": {"__init__": "(self, name)"},
        "RepeatedName": {"__init__": "(self, name)"},
        "UnknownValue": {"__init__": "(self, name, value)"},
        "RepeatedValue": {"__init__": "(self, value)"},
        "UnknownKey": {"__init__": "(self, key)"},
        "RepeatedKey": {"__init__": "(self, key)"},
        "EmptyRule": None,
        "BadRow": {"__init__": "(self, row)"},
        "BadBounds": {"__init__": "(self, low, high)"},
        "BadNumber": {"__init__": "(self, number)"},
        "BadStep": {"__init__": "(self, position)"},
        "NoMark": {"__init__": "(self, number)"},
        "NotStruck": {"__init__": "(self, name, value)"},
        "BadOrder": {"__init__": "(self, names)"},
        "NotBare": {"__init__": "(self, found)"},
        "NoClash": None,
        "HoldsAnswer": {"__init__": "(self, answer)"},
        "BadLine": {"__init__": "(self, number, fault)"},
        "UnknownLine": {"__init__": "(self, number)"},
        "BadText": {"__init__": "(self, number)"},
        "NothingToUndo": None,
        "NothingToRedo": None,
        "UnknownStep": {"__init__": "(self, number)"},
        "BadDeed": {"__init__": "(self, position)"},
    },
    "tables": {
        "Table": {"__init__": "(self, names, rows)", **RULE_METHODS},
    },
    "bans": {
        "Ban": {"__init__": "(self, names, rows)", **RULE_METHODS},
    },
    "sums": {
        "Sum": {"__init__": "(self, terms, *, low=None, high=None)", **RULE_METHODS},
    },
    "rings": {
        "Ring": {"__init__": "(self, edges)", "highest": "(self, box)", **RULE_METHODS},
    },
    "unlike": {
        "Unlike": {"__init__": "(self, names)", **RULE_METHODS},
    },
    "counts": {
        "Counts": {"__init__": "(self, names, limits)", **RULE_METHODS},
    },
    "store": {
        "Store": {
            "__init__": "(self, domains)",
            "level": PROPERTY,
            "side": "(self, name)",
            "box": "(self)",
            "strike": "(self, name, value, *, note=None)",
            "keep": "(self, name, side, *, note=None)",
            "mark": "(self)",
            "undo": "(self)",
            "back_to": "(self, level)",
            "trail": "(self)",
            "marks": "(self)",
            "place": "(self, name, value)",
        },
    },
    "puzzles": {
        "Puzzle": {
            "__init__": "(self, domains, rules)",
            "__contains__": "(self, name)",
            "__iter__": "(self)",
            "domain": "(self, name)",
            "domains": "(self)",
            "box": "(self)",
            "rule": "(self, key)",
            "allows": "(self, values)",
            "with_rules": "(self, rules)",
            "without_rule": "(self, key)",
        },
    },
    "settle": {
        "Settler": {
            "__init__": "(self, puzzle)",
            "clashed": PROPERTY,
            "level": PROPERTY,
            "box": "(self)",
            "waiting": "(self)",
            "run": "(self, key)",
            "settle": "(self, *, order=None)",
            "assume": "(self, name, side)",
            "back_to": "(self, level)",
            "probe": "(self, assumptions)",
            "trail": "(self)",
            "reason": "(self, name, value)",
        },
    },
    "checker": {
        "Checker": {
            "__init__": "(self, puzzle, *, worth=None, greatest=False)",
            "size": PROPERTY,
            "is_closed": PROPERTY,
            "best_worth": PROPERTY,
            "read": "(self, line)",
            "box_of": "(self, number)",
            "told_answers": "(self)",
        },
    },
    "answers": {
        "Result": None,
    },
    "history": {
        "History": {
            "__init__": "(self, start)",
            "state": PROPERTY,
            "steps": PROPERTY,
            "undone": PROPERTY,
            "push": "(self, state)",
            "undo": "(self)",
            "redo": "(self)",
            "back_to": "(self, steps)",
        },
    },
    "desk": {
        "Desk": {
            "__init__": "(self)",
            "steps": PROPERTY,
            "undone": PROPERTY,
            "declare": "(self, name, values)",
            "post": "(self, key, rule)",
            "exchange": "(self, key, rule)",
            "withdraw": "(self, key)",
            "write": "(self, line)",
            "derive": "(self, box)",
            "attempt": "(self, deeds)",
            "undo": "(self)",
            "redo": "(self)",
            "back_to": "(self, steps)",
            "puzzle": "(self)",
            "box": "(self)",
            "book": "(self)",
            "resting": "(self, number)",
            "find_first": "(self, *, order=None, greatest_first=False)",
            "find_all": "(self, *, order=None, greatest_first=False)",
            "find_best": "(self, worth, *, greatest=False, order=None, greatest_first=False)",
        },
    },
}


def defined_in(module, kind):
    """Return the functions, or the classes, that the file of a module defines itself."""
    tree = ast.parse((PACKAGE / f"{module}.py").read_text())
    return {node.name: node for node in tree.body if isinstance(node, kind)}


class InterfaceTest(unittest.TestCase):
    def test_functions(self):
        for module, functions in FUNCTIONS.items():
            defined = defined_in(module, ast.FunctionDef)
            loaded = importlib.import_module(f"curbdesk.{module}")
            for name, arguments in functions.items():
                self.assertIn(name, defined)
                self.assertEqual(str(inspect.signature(getattr(loaded, name))), arguments, name)

    def test_classes(self):
        for module, classes in CLASSES.items():
            defined = defined_in(module, ast.ClassDef)
            loaded = importlib.import_module(f"curbdesk.{module}")
            for name, methods in classes.items():
                self.assertIn(name, defined)
                self.check_methods(defined[name], getattr(loaded, name), methods or {})

    def check_methods(self, node, loaded, methods):
        in_the_class = {part.name for part in node.body if isinstance(part, ast.FunctionDef)}
        for method, arguments in methods.items():
            self.assertIn(method, in_the_class)
            found = vars(loaded)[method]
            found = PROPERTY if isinstance(found, property) else str(inspect.signature(found))
            self.assertEqual(found, arguments, f"{node.name}.{method}")


if __name__ == "__main__":
    unittest.main()
