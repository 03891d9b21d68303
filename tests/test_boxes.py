import unittest

from curbdesk.boxes import box_within, filled, holds, join_boxes, meet_boxes, room, trimmed
from curbdesk.errors import UnknownName
from tests.support import DeskCase, all_in, held, random_box, seeded, wide_box

DOMAINS = [("x", [1, 2, 3]), ("y", [0, 5]), ("z", [])]


class RoomTest(DeskCase):
    def test_room(self):
        self.assertEqual(self.ask(room, {}), 1)
        self.assertEqual(self.ask(room, {"x": [4]}), 1)
        self.assertEqual(self.ask(room, {"x": [1, 2], "y": [1, 2, 3], "z": [7, 8]}), 12)
        self.assertEqual(self.ask(room, {"x": [1, 2], "y": []}), 0)
        self.assertEqual(self.ask(room, {"y": []}), 0)

    def test_room_at_full_size(self):
        self.assertEqual(room(wide_box()), 20 ** 20)


class HoldsTest(DeskCase):
    def test_holds(self):
        box = {"x": [1, 2], "y": [3]}
        self.assertIs(self.ask(holds, box, {"x": 2, "y": 3}), True)
        self.assertIs(self.ask(holds, box, {"x": 3, "y": 3}), False)
        self.assertIs(self.ask(holds, box, {"x": 1, "y": 4}), False)

    def test_other_names_may_take_any_value(self):
        self.assertIs(holds({"x": [1]}, {"x": 1, "other": 99}), True)

    def test_empty_box_and_empty_side(self):
        self.assertIs(holds({}, {}), True)
        self.assertIs(holds({}, {"x": 1}), True)
        self.assertIs(holds({"x": [1], "y": []}, {"x": 1, "y": 1}), False)

    def test_full_size(self):
        values = {name: 0 for name in wide_box()}
        self.assertIs(holds(wide_box(), values), True)
        values["n19"] = 99
        self.assertIs(holds(wide_box(), values), False)


class WithinTest(DeskCase):
    def test_sides(self):
        self.assertIs(self.ask(box_within, {"x": [1]}, {"x": [1, 2]}), True)
        self.assertIs(self.ask(box_within, {"x": [1, 2]}, {"x": [1, 2]}), True)
        self.assertIs(self.ask(box_within, {"x": [1, 3]}, {"x": [1, 2]}), False)
        self.assertIs(box_within({"x": [1], "y": [5]}, {"x": [1], "y": [4]}), False)
        self.assertIs(box_within({"x": [9], "y": [4]}, {"x": [1], "y": [4]}), False)

    def test_listed_names(self):
        self.assertIs(box_within({"x": [1], "y": [1]}, {"x": [1]}), True)
        self.assertIs(box_within({"x": [1]}, {"x": [1], "y": [1]}), False)
        self.assertIs(box_within({}, {}), True)
        self.assertIs(box_within({"x": [1]}, {}), True)
        self.assertIs(box_within({}, {"x": [1]}), False)

    def test_empty_sides(self):
        self.assertIs(box_within({"x": []}, {"x": []}), True)
        self.assertIs(box_within({"x": []}, {"x": [1]}), True)
        self.assertIs(box_within({"x": [1]}, {"x": []}), False)
        # The words ask for each side of its own, also if the box holds nothing.
        self.assertIs(box_within({"x": []}, {"y": [1]}), False)
        self.assertIs(box_within({"x": [], "y": [2]}, {"x": [], "y": [1]}), False)

    def test_full_size(self):
        self.assertIs(box_within(wide_box(), wide_box()), True)
        smaller = wide_box()
        smaller["n7"].remove(3)
        self.assertIs(box_within(smaller, wide_box()), True)
        self.assertIs(box_within(wide_box(), smaller), False)


class FormsTest(DeskCase):
    def test_filled(self):
        self.assertEqual(self.ask(filled, {"x": [0, 2, 3, 9]}, DOMAINS), {"x": [2, 3], "y": [0, 5], "z": []})
        self.assertEqual(self.ask(filled, {}, DOMAINS), {"x": [1, 2, 3], "y": [0, 5], "z": []})
        self.assertEqual(
            self.ask(filled, {"z": [1], "y": []}, DOMAINS), {"x": [1, 2, 3], "y": [], "z": []}
        )
        self.assertEqual(self.ask(filled, {}, []), {})

    def test_trimmed(self):
        self.assertEqual(self.ask(trimmed, {"x": [0, 2, 3, 9]}, DOMAINS), {"x": [2, 3]})
        self.assertEqual(self.ask(trimmed, {"x": [1, 2, 3], "y": [0, 5]}, DOMAINS), {})
        self.assertEqual(self.ask(trimmed, {"x": [0, 1, 2, 3, 4], "y": [0]}, DOMAINS), {"y": [0]})
        self.assertEqual(self.ask(trimmed, {}, DOMAINS), {})
        self.assertEqual(self.ask(trimmed, {}, []), {})

    def test_empty_sides(self):
        self.assertEqual(self.ask(trimmed, {"x": []}, DOMAINS), {"x": []})
        self.assertEqual(self.ask(trimmed, {"y": [7]}, DOMAINS), {"y": []})
        self.assertEqual(self.ask(trimmed, {"z": []}, DOMAINS), {})
        self.assertEqual(self.ask(trimmed, {"z": [4]}, DOMAINS), {})

    def test_unknown_name(self):
        for form in (filled, trimmed):
            self.fails(UnknownName, {"name": "a"}, form, {"a": [1]}, DOMAINS)
            self.fails(UnknownName, {"name": "a"}, form, {"a": []}, DOMAINS)
            self.fails(UnknownName, {"name": "a"}, form, {"a": [1]}, [])

    def test_first_unknown_name_in_the_order_of_the_box(self):
        for form in (filled, trimmed):
            self.fails(UnknownName, {"name": "b"}, form, {"x": [7], "b": [], "a": [1]}, DOMAINS)
            self.fails(UnknownName, {"name": "a"}, form, {"a": [1], "y": [], "b": []}, DOMAINS)

    def test_full_size(self):
        domains = list(wide_box().items())
        self.assertEqual(filled({"n3": [0, 99]}, domains)["n3"], [0])
        self.assertEqual(trimmed({"n3": [0, 99], "n4": list(range(-20, 20))}, domains), {"n3": [0]})


class MeetTest(DeskCase):
    def test_meet(self):
        first = {"x": [1, 2, 3], "y": [4]}
        second = {"x": [2, 3, 4], "z": [5, 6]}
        self.assertEqual(self.ask(meet_boxes, first, second), {"x": [2, 3], "y": [4], "z": [5, 6]})
        self.assertEqual(self.ask(meet_boxes, second, first), {"x": [2, 3], "y": [4], "z": [5, 6]})

    def test_edges(self):
        self.assertEqual(self.ask(meet_boxes, {}, {}), {})
        self.assertEqual(self.ask(meet_boxes, {"x": [1]}, {}), {"x": [1]})
        self.assertEqual(self.ask(meet_boxes, {}, {"x": [1]}), {"x": [1]})
        self.assertEqual(self.ask(meet_boxes, {"x": [1]}, {"x": [2]}), {"x": []})
        self.assertEqual(self.ask(meet_boxes, {"x": []}, {"x": [2]}), {"x": []})

    def test_same_object_twice(self):
        box = {"x": [1, 2], "y": []}
        self.assertEqual(self.ask(meet_boxes, box, box), box)
        self.assertEqual(self.ask(join_boxes, box, box, "x"), box)

    def test_full_size(self):
        other = {"n0": [1], "m": [2]}
        meet = meet_boxes(wide_box(), other)
        self.assertEqual(meet, {**wide_box(), "n0": [1], "m": [2]})


class JoinTest(DeskCase):
    def test_example(self):
        first = {"x": [1, 2], "y": [1, 3]}
        second = {"x": [2, 5], "y": [3, 4], "z": [7]}
        self.assertEqual(self.ask(join_boxes, first, second, "x"), {"x": [1, 2, 5], "y": [3], "z": [7]})

    def test_only_one_lists_the_name(self):
        first = {"x": [1, 2], "y": [1, 3]}
        second = {"y": [3]}
        self.assertEqual(self.ask(join_boxes, first, second, "x"), {"y": [3]})
        self.assertEqual(self.ask(join_boxes, second, first, "x"), {"y": [3]})

    def test_none_lists_the_name(self):
        self.assertEqual(self.ask(join_boxes, {"y": [1, 2]}, {"y": [2, 3]}, "x"), {"y": [2]})
        self.assertEqual(self.ask(join_boxes, {}, {}, "x"), {})

    def test_empty_sides(self):
        self.assertEqual(self.ask(join_boxes, {"x": []}, {"x": [3]}, "x"), {"x": [3]})
        self.assertEqual(self.ask(join_boxes, {"x": []}, {"x": []}, "x"), {"x": []})
        self.assertEqual(self.ask(join_boxes, {"x": [], "y": [1]}, {"x": [3], "y": [1]}, "y"), {"x": [], "y": [1]})

    def test_against_assignments(self):
        source = seeded(8)
        names = ["x", "y", "z"]
        everything = all_in({name: list(range(-1, 4)) for name in names})
        for _ in range(150):
            first = random_box(source, source.sample(names, source.randint(0, 3)), 4)
            second = random_box(source, source.sample(names, source.randint(0, 3)), 4)
            meet = self.ask(meet_boxes, first, second)
            join = self.ask(join_boxes, first, second, "y")
            for values in everything:
                self.assertIs(holds(first, values), held(first, values))
                both = held(first, values) and held(second, values)
                self.assertEqual(held(meet, values), both)
                if held(join, values):
                    self.assertTrue(held(first, values) or held(second, values))
            self.assertEqual("y" in join, "y" in first and "y" in second)
            for name in ("x", "z"):
                self.assertEqual(join.get(name), meet.get(name))


if __name__ == "__main__":
    unittest.main()
