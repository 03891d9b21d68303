import unittest

from curbdesk.boxes import box_within, join_boxes, trimmed
from curbdesk.errors import NotStruck, UnknownName
from curbdesk.joins import covered_by_two, join_back
from tests.support import DeskCase, all_in, held, random_box, random_side, seeded, wide_box


class CoveredByTwoTest(DeskCase):
    def test_example(self):
        pair = self.ask(
            covered_by_two, {"x": [1], "y": [1, 2]}, {"x": [2, 3], "y": [2]}, {"x": [1, 2], "y": [2]}
        )
        self.assertEqual(pair, ("join", "x"))

    def test_first_comes_before_second(self):
        box = {"x": [1], "y": [2]}
        self.assertEqual(self.ask(covered_by_two, box, box, box), ("first", None))
        wide = {"x": [1, 2], "y": [1, 2]}
        self.assertEqual(self.ask(covered_by_two, wide, box, box), ("first", None))
        self.assertEqual(self.ask(covered_by_two, {"x": [2], "y": [2]}, wide, box), ("second", None))

    def test_empty_sides_of_the_third_box(self):
        far = {"x": [8], "y": [8]}
        self.assertEqual(self.ask(covered_by_two, far, far, {"x": [], "y": [2]}), ("first", None))
        self.assertEqual(self.ask(covered_by_two, far, {"x": [], "y": [2]}, {"x": [], "y": [2]}), ("first", None))

    def test_no_names(self):
        self.assertEqual(self.ask(covered_by_two, {}, {}, {}), ("first", None))

    def test_empty_sides_of_the_others(self):
        box = {"x": [1], "y": [2]}
        nothing = {"x": [], "y": [2]}
        self.assertEqual(self.ask(covered_by_two, nothing, box, box), ("second", None))
        self.assertEqual(self.ask(covered_by_two, nothing, nothing, box), ("outside", {"x": 1, "y": 2}))

    def test_one_value_of_one_name_is_left_out(self):
        pair = self.ask(covered_by_two, {"x": [1]}, {"x": [2]}, {"x": [1, 2, 3]})
        self.assertEqual(pair, ("outside", {"x": 3}))

    def test_two_names_lead_out(self):
        pair = self.ask(
            covered_by_two, {"x": [1], "y": [1, 2]}, {"x": [1, 2], "y": [1]}, {"x": [1, 2], "y": [1, 2]}
        )
        self.assertEqual(pair, ("outside", {"x": 2, "y": 2}))

    def test_second_goes_beyond_in_one_name_more(self):
        first = {"x": [1], "y": [1, 2]}
        second = {"x": [2], "y": [1]}
        pair = self.ask(covered_by_two, first, second, {"x": [1, 2], "y": [1, 2]})
        self.assertEqual(pair, ("outside", {"x": 2, "y": 2}))

    def test_against_assignments(self):
        source = seeded(10)
        seen = {}
        for _ in range(1500):
            names = ["x", "y", "z"][: source.randint(0, 3)]
            first, second, box = (random_box(source, names, 3, least=source.randint(0, 3)) for _ in range(3))
            word, content = covered_by_two(first, second, box)
            seen[word] = seen.get(word, 0) + 1
            self.check_answer(first, second, box, word, content)
        self.assertEqual(set(seen), {"first", "second", "join", "outside"})
        self.assertTrue(all(times > 20 for times in seen.values()), seen)

    def check_answer(self, first, second, box, word, content):
        inside = all_in(box)
        if all(held(first, values) for values in inside):
            self.assertEqual((word, content), ("first", None))
        elif all(held(second, values) for values in inside):
            self.assertEqual((word, content), ("second", None))
        elif all(held(first, values) or held(second, values) for values in inside):
            fitting = [name for name in box if box_within(box, join_boxes(first, second, name))]
            self.assertEqual(([(word, content)]), [("join", name) for name in fitting])
        else:
            self.assertEqual(word, "outside")
            self.assertIn(content, inside)
            self.assertFalse(held(first, content) or held(second, content))

    def test_full_size(self):
        box = wide_box()
        low, high = wide_box(), wide_box()
        low["n13"] = low["n13"][:12]
        high["n13"] = high["n13"][9:]
        self.assertEqual(self.ask(covered_by_two, low, high, box), ("join", "n13"))
        high["n13"] = high["n13"][4:]
        word, values = self.ask(covered_by_two, low, high, box)
        self.assertEqual((word, values["n13"]), ("outside", 7))
        self.assertTrue(held(box, values))


class JoinBackTest(DeskCase):
    def test_example(self):
        trail = [("x", 1, None), ("y", 1, {"x": [2], "y": [1]}), ("y", 2, {"x": [2], "y": [2]})]
        pair = self.ask(join_back, [("x", [1, 2]), ("y", [1, 2])], trail, "y")
        self.assertEqual(pair, ({"x": [2]}, [2, 1]))

    def test_value_that_the_box_has_already_is_not_joined(self):
        domains = [("x", [1, 2]), ("y", [1, 2])]
        trail = [("y", 1, {"y": [1]}), ("x", 1, None), ("y", 2, {"x": [2], "y": [1, 2]})]
        self.assertEqual(self.ask(join_back, domains, trail, "y"), ({"x": [2]}, [2]))

    def test_strike_of_a_name_that_the_box_does_not_list(self):
        domains = [("x", [1, 2]), ("y", [1, 2])]
        trail = [("x", 1, {"x": [1]}), ("y", 1, {"y": [1]}), ("y", 2, {"y": [2]})]
        self.assertEqual(self.ask(join_back, domains, trail, "y"), ({}, [2, 1]))

    def test_reason_that_does_not_list_the_struck_name(self):
        domains = [("x", [1, 2]), ("y", [1, 2])]
        trail = [("x", 1, None), ("y", 1, {"y": [1]}), ("y", 2, {"x": [2]})]
        # The first join lets y take any value, so that the box no longer lists y.
        self.assertEqual(self.ask(join_back, domains, trail, "y"), ({"x": [2]}, [2]))

    def test_assumed_strikes(self):
        domains = [("x", [1, 2]), ("y", [1])]
        trail = [("x", 2, None), ("x", 1, None)]
        self.assertEqual(self.ask(join_back, domains, trail, "x"), ({"x": []}, []))

    def test_trail_behind_the_last_value(self):
        domains = [("x", [1]), ("y", [3])]
        trail = [("x", 1, {"x": [1]}), ("y", 3, {"x": [], "y": [3]})]
        self.assertEqual(self.ask(join_back, domains, trail, "x"), ({}, [0]))
        self.assertEqual(self.ask(join_back, domains, trail, "y"), ({}, [1, 0]))

    def test_name_without_values(self):
        self.assertEqual(self.ask(join_back, [("x", [])], [], "x"), ({}, []))
        self.assertEqual(self.ask(join_back, [("x", []), ("y", [4])], [("y", 4, {"y": [4]})], "x"), ({}, []))

    def test_result_is_trimmed(self):
        domains = [("x", [1, 2]), ("y", [1])]
        trail = [("y", 1, {"x": [0, 1, 2, 7], "y": [1, 5]})]
        self.assertEqual(self.ask(join_back, domains, trail, "y"), ({}, [0]))
        trail = [("x", 1, None), ("y", 1, {"x": [2, 7], "y": [1, 5]})]
        self.assertEqual(self.ask(join_back, domains, trail, "y"), ({"x": [2]}, [1]))

    def test_errors_in_their_order(self):
        domains = [("x", [1, 2, 4]), ("y", [1])]
        trail = [("x", 4, None), ("x", 1, {"x": [1]})]
        self.fails(UnknownName, {"name": "z"}, join_back, domains, trail, "z")
        self.fails(UnknownName, {"name": "z"}, join_back, [], [], "z")
        self.fails(NotStruck, {"name": "x", "value": 2}, join_back, domains, trail, "x")
        self.fails(NotStruck, {"name": "y", "value": 1}, join_back, domains, trail, "y")
        self.fails(NotStruck, {"name": "x", "value": 1}, join_back, domains, [("y", 1, None)], "x")
        self.fails(NotStruck, {"name": "x", "value": 4}, join_back, domains, [("x", 2, None), ("x", 1, None)], "x")

    def test_random_trails(self):
        source = seeded(13)
        joined_some = 0
        for _ in range(300):
            domains, trail, name = self.random_trail(source)
            box, positions = self.ask(join_back, domains, trail, name)
            self.check_back(domains, trail, name, box, positions)
            joined_some += len(positions) > 1
        self.assertGreater(joined_some, 50)

    def random_trail(self, source):
        domains = [(name, random_side(source, 3, least=1)) for name in ("x", "y", "z")]
        left = {name: list(side) for name, side in domains}
        trail = []
        while all(left.values()):
            name = source.choice(list(left))
            value = source.choice(left[name])
            reason = None
            if source.random() < 0.8:
                others = [other for other in left if other != name and source.random() < 0.7]
                reason = {other: sorted(set(left[other]) | set(random_side(source, 3))) for other in others}
                if source.random() < 0.9:
                    reason[name] = sorted({value} | set(random_side(source, 2)))
            left[name].remove(value)
            trail.append((name, value, reason))
        return domains, trail, name

    def check_back(self, domains, trail, name, box, positions):
        self.assertEqual(box, trimmed(box, domains))
        self.assertEqual(positions, sorted(positions, reverse=True))
        current = {name: []}
        expected = []
        for position in range(len(trail) - 1, -1, -1):
            struck, value, reason = trail[position]
            if reason is not None and value not in current.get(struck, [value]):
                current = join_boxes(current, reason, struck)
                expected.append(position)
        self.assertEqual(positions, expected)
        self.assertEqual(box, trimmed(current, domains))
        reasons = [trail[position][2] for position in positions]
        assumed = {(struck, value) for struck, value, reason in trail if reason is None}
        for other, side in domains:
            for value in side:
                self.assertTrue(value in box.get(other, side) or (other, value) in assumed)
        for values in all_in(dict(domains)):
            if held(box, values):
                self.assertTrue(any(held(reason, values) for reason in reasons))

    def test_full_size(self):
        domains = list(wide_box().items())
        trail = []
        for name, side in domains[:-1]:
            trail.extend((name, value, None) for value in side[1:])
        last, side = domains[-1]
        firsts = {name: other[:1] for name, other in domains[:-1]}
        trail.extend((last, value, {**firsts, last: [value]}) for value in side)
        box, positions = self.ask(join_back, domains, trail, last)
        self.assertEqual(box, firsts)
        self.assertEqual(positions, list(range(len(trail) - 1, len(trail) - 21, -1)))


if __name__ == "__main__":
    unittest.main()
