import unittest

from curbdesk.errors import BadRow, EmptyRule, RepeatedName
from curbdesk.tables import Table
from tests.support import RuleCase, random_box, seeded, wide_box

ROWS = [(2, 1), (1, 1), (1, 2), (2, 2), (1, 1)]


class TableMakingTest(RuleCase):
    def test_attributes(self):
        table = self.new_table(["y", "x"], [[2, 1], (1, 1), [2, 1]])
        self.assertEqual(table.names, ("y", "x"))
        self.assertEqual(table.rows, ((2, 1), (1, 1), (2, 1)))

    def new_table(self, names, rows):
        table = Table(names, rows)
        self.assertIs(type(table.names), tuple)
        self.assertIs(type(table.rows), tuple)
        for row in table.rows:
            self.assertIs(type(row), tuple)
        return table

    def test_no_rows(self):
        self.assertEqual(self.new_table(["x"], []).rows, ())

    def test_errors(self):
        self.fails(EmptyRule, {}, Table, [], [])
        self.fails(EmptyRule, {}, Table, [], [(1,)])
        self.fails(EmptyRule, {}, Table, [], [()])
        self.fails(RepeatedName, {"name": "x"}, Table, ["x", "x"], [(1, 2)])
        self.fails(RepeatedName, {"name": "y"}, Table, ["x", "y", "y", "x"], [(1, 2, 3)])
        self.fails(BadRow, {"row": (1,)}, Table, ["x", "y"], [(1, 2), (1,), (1, 2, 3)])
        self.fails(BadRow, {"row": (1, 2, 3)}, Table, ["x", "y"], [(1, 2), [1, 2, 3], (1,)])
        self.fails(BadRow, {"row": ()}, Table, ["x", "y"], [[]])

    def test_row_of_an_error_is_a_tuple(self):
        error = self.fails(BadRow, {"row": (1, 2)}, Table, ["x"], [[1, 2]])
        self.assertIs(type(error.row), tuple)

    def test_later_changes_have_no_effect(self):
        names = ["x", "y"]
        rows = [[1, 2], [3, 4]]
        table = Table(names, rows)
        names.append("z")
        names[0] = "w"
        rows[0][1] = 9
        rows[1].append(5)
        rows.append([7, 8])
        self.assertEqual(table.names, ("x", "y"))
        self.assertEqual(table.rows, ((1, 2), (3, 4)))
        self.assertEqual(table.witness({"x": [1, 3], "y": [2, 4]}), {"x": 1, "y": 2})


class TableTest(RuleCase):
    words = ("blame",)

    def test_allows(self):
        table = Table(["x", "y"], ROWS[:2])
        self.assertIs(self.ask(table.allows, {"x": 2, "y": 1}), True)
        self.assertIs(self.ask(table.allows, {"y": 1, "x": 1}), True)
        self.assertIs(self.ask(table.allows, {"x": 1, "y": 2}), False)
        self.assertIs(self.ask(table.allows, {"x": 2, "y": 1, "z": 5}), True)
        self.assertIs(Table(["x"], []).allows({"x": 1}), False)

    def test_witness_is_the_first_allowed_assignment(self):
        table = Table(["x", "y"], ROWS)
        self.assertEqual(self.ask(table.witness, {"x": [1, 2], "y": [1, 2]}), {"x": 1, "y": 1})
        self.assertEqual(self.ask(table.witness, {"x": [2], "y": [1, 2], "z": []}), {"x": 2, "y": 1})
        self.assertEqual(self.ask(table.witness, {"y": [2], "x": [0, 1, 2, 3]}), {"x": 1, "y": 2})
        self.assertIsNone(self.ask(table.witness, {"x": [3], "y": [1]}))
        self.assertIsNone(self.ask(table.witness, {"x": [], "y": [1]}))
        self.assertIsNone(self.ask(Table(["x"], []).witness, {"x": [1]}))

    def test_supported(self):
        table = Table(["x", "y"], [(1, 1), (3, 2), (3, 1), (1, 1)])
        self.assertEqual(self.ask(table.supported, {"x": [0, 1, 2, 3], "y": [1]}, "x"), [1, 3])
        self.assertEqual(self.ask(table.supported, {"x": [3], "y": [1, 2, 3]}, "y"), [1, 2])
        self.assertEqual(self.ask(table.supported, {"x": [3], "y": []}, "x"), [])

    def test_certificates(self):
        table = Table(["x", "y"], [(1, 1), (2, 2), (1, 1)])
        self.assertIsNone(self.ask(table.certificate, {"x": [1], "y": [1]}))
        self.assertEqual(self.ask(table.certificate, {"x": [1], "y": [2]}), ("blame", ["y", "x", "y"]))
        self.assertEqual(self.ask(table.certificate, {"x": [], "y": []}), ("empty", "x"))
        self.assertEqual(self.ask(table.certificate, {"x": [1], "y": [], "z": []}), ("empty", "y"))
        self.assertEqual(self.ask(Table(["x"], []).certificate, {"x": [1]}), ("blame", []))
        self.assertEqual(self.ask(Table(["x"], []).certificate, {"x": []}), ("empty", "x"))

    def test_blame(self):
        table = Table(["x", "y"], [(1, 1), (2, 2)])
        box = {"x": [1], "y": [2], "z": []}
        self.assertIs(self.ask(table.accepts, box, ("blame", ["y", "x"])), True)
        for names in (["x", "x"], ["y", "y"], ["y"], [], ["y", "x", "x"], ["y", "z"], ["z", "x"], ["y", "who"]):
            self.assertIs(self.ask(table.accepts, box, ("blame", names)), False, names)

    def test_blame_with_an_empty_side(self):
        table = Table(["x", "y"], [(1, 1), (2, 2)])
        box = {"x": [], "y": [2]}
        self.assertIs(table.accepts(box, ("blame", ["x", "x"])), True)
        self.assertIs(table.accepts(box, ("blame", ["y", "x"])), True)
        self.assertIs(table.accepts(box, ("blame", ["x", "y"])), False)
        self.assertIs(table.accepts(box, ("blame", [])), False)

    def test_blame_without_rows(self):
        table = Table(["x"], [])
        self.assertIs(table.accepts({"x": [1]}, ("blame", [])), True)
        self.assertIs(table.accepts({"x": []}, ("blame", [])), True)
        self.assertIs(table.accepts({"x": []}, ("blame", ["x"])), False)

    def test_random(self):
        source = seeded(16)
        bare = 0
        for _ in range(200):
            names = source.sample(["x", "y", "z"], source.randint(1, 3))
            rows = [tuple(source.randint(-1, 2) for _ in names) for _ in range(source.randint(0, 6))]
            box = random_box(source, ["x", "y", "z"], 4)
            table = Table(names, rows)
            self.check_rule(table, box, lambda values: tuple(values[name] for name in names) in rows)
            bare += table.witness(box) is None
            for _ in range(5):
                self.check_blame(source, table, box)
        self.assertTrue(40 < bare < 160, bare)

    def check_blame(self, source, table, box):
        content = [source.choice(table.names) for _ in table.rows]
        good = all(row[table.names.index(name)] not in box[name] for name, row in zip(content, table.rows))
        self.assertIs(self.ask(table.accepts, box, ("blame", content)), good)

    def test_full_size(self):
        names = [f"n{number}" for number in range(8)]
        table = Table(names, [[k % 20 for _ in names] for k in range(64)])
        box = wide_box()
        self.assertEqual(self.ask(table.witness, box), {name: 0 for name in names})
        self.assertEqual(self.ask(table.supported, box, "n3"), list(range(15)))
        box["n2"] = [-5]
        certificate = self.ask(table.certificate, box)
        self.assertIs(table.accepts(box, certificate), True)
        self.assertIs(table.accepts(box, ("blame", ["n2"] * 64)), True)
        self.assertIs(table.accepts(box, ("blame", ["n2"] * 600)), False)


if __name__ == "__main__":
    unittest.main()
