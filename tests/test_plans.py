import unittest

from curbdesk.boxes import join_boxes, room
from curbdesk.errors import BadStep
from curbdesk.plans import join_plan, run_plan
from tests.support import DeskCase, all_in, held, random_box, seeded


class PlanCase(DeskCase):
    def check_plan(self, boxes, target):
        """Check what join_plan returns, and return its first word."""
        result = self.ask(join_plan, boxes, target)
        self.assertIs(type(result), tuple)
        left_out = [values for values in all_in(target) if not any(held(box, values) for box in boxes)]
        if left_out:
            self.assertEqual(len(result), 2)
            self.assertEqual(result[0], "outside")
            self.assertIn(result[1], left_out)
        else:
            self.assertEqual((len(result), result[0]), (3, "plan"))
            self.check_steps(boxes, target, result[1], result[2])
        return result[0]

    def check_steps(self, boxes, target, steps, number):
        self.assertIs(type(steps), list)
        self.assertLess(len(steps), room(target))
        known = list(boxes)
        for step in steps:
            self.assertIs(type(step), tuple)
            name, first, second = step
            self.assertIn(name, target)
            self.assertTrue(0 <= first < len(known) and 0 <= second < len(known))
            known.append(join_boxes(known[first], known[second], name))
        self.assertTrue(0 <= number < len(known))
        for name, side in target.items():
            self.assertLessEqual(set(side), set(known[number][name]))


class JoinPlanTest(PlanCase):
    def test_box_around_the_target(self):
        boxes = [{"x": [1]}, {"x": [1, 2, 3]}]
        self.assertEqual(self.ask(join_plan, boxes, {"x": [1, 2]}), ("plan", [], 1))

    def test_one_join(self):
        boxes = [{"x": [1], "y": [1, 2]}, {"x": [2], "y": [1, 2]}]
        word, steps, number = self.ask(join_plan, boxes, {"x": [1, 2], "y": [1]})
        self.assertEqual((word, number), ("plan", 2))
        self.assertEqual(steps, [("x", 0, 1)])

    def test_no_boxes(self):
        self.assertEqual(self.ask(join_plan, [], {"x": [4]}), ("outside", {"x": 4}))
        self.assertEqual(self.check_plan([], {"x": [1, 2], "y": [3]}), "outside")

    def test_boxes_with_empty_sides(self):
        nothing = {"x": [], "y": [1, 2]}
        self.assertEqual(self.check_plan([nothing, nothing], {"x": [1], "y": [1]}), "outside")
        box = {"x": [1], "y": [1]}
        self.assertEqual(self.ask(join_plan, [nothing, box, nothing], box), ("plan", [], 1))

    def test_target_of_room_one_has_a_plan_without_steps(self):
        boxes = [{"x": [2], "y": [1]}, {"x": [1], "y": [1]}]
        self.assertEqual(self.ask(join_plan, boxes, {"x": [1], "y": [1]}), ("plan", [], 1))

    def test_every_assignment_has_a_box_of_its_own(self):
        target = {"x": [1, 2, 3], "y": [1, 2], "z": [4, 5]}
        boxes = [{name: [value] for name, value in values.items()} for values in all_in(target)]
        self.assertEqual(self.check_plan(boxes, target), "plan")
        self.assertEqual(self.check_plan(boxes[:-1], target), "outside")
        self.assertEqual(self.check_plan(boxes[:5] + boxes[6:], target), "outside")

    def test_random(self):
        source = seeded(11)
        words = []
        for _ in range(400):
            names = ["x", "y", "z"][: source.randint(1, 3)]
            boxes = [random_box(source, names, 3) for _ in range(source.randint(0, 12))]
            words.append(self.check_plan(boxes, random_box(source, names, 3, least=1)))
        self.assertGreater(words.count("plan"), 60)
        self.assertGreater(words.count("outside"), 60)

    def test_full_size(self):
        names = ["a", "b", "c", "d", "e"]
        target = {"a": [0, 1, 2, 3], "b": [0, 1, 2, 3], "c": [0, 1, 2, 3], "d": [0, 1], "e": [0, 1]}
        wide = {name: list(range(20)) for name in names}
        boxes = []
        for number in range(24):
            box = {name: list(side) for name, side in wide.items()}
            box["a"] = [number % 4, 5 + number % 15]
            box["b"] = [number // 4 % 4, 19]
            boxes.append(box)
        self.assertEqual(self.check_plan(boxes, target), "plan")
        boxes = [box for box in boxes if box["a"][0] != 2 or box["b"][0] != 3]
        self.assertEqual(self.check_plan(boxes, target), "outside")

    def test_full_size_with_many_joins(self):
        source = seeded(5)
        names = ["a", "b", "c", "d"]
        target = {name: [0, 1, 2, 3] for name in names}
        for _ in range(10):
            boxes = [random_box(source, names, 6, least=3) for _ in range(20)]
            boxes += [{**target, "a": [value]} for value in range(4)]
            self.assertEqual(self.check_plan(boxes, target), "plan")


class RunPlanTest(DeskCase):
    def test_run(self):
        boxes = [{"x": [1], "y": [1, 2]}, {"x": [2], "y": [2, 3]}]
        steps = [("x", 0, 1), ("y", 2, 0), ("y", 3, 3)]
        expected = boxes + [{"x": [1, 2], "y": [2]}, {"x": [1], "y": [1, 2]}, {"x": [1], "y": [1, 2]}]
        self.assertEqual(self.ask(run_plan, boxes, steps), expected)

    def test_nothing_to_do(self):
        self.assertEqual(self.ask(run_plan, [], []), [])
        self.assertEqual(self.ask(run_plan, [{"x": []}], []), [{"x": []}])

    def test_same_box_several_times(self):
        box = {"x": [1, 2]}
        self.assertEqual(self.ask(run_plan, [box, box], [("x", 0, 0)]), [box, box, box])

    def test_bad_steps(self):
        boxes = [{"x": [1]}, {"x": [2]}]
        good = ("x", 0, 1)
        for bad in [("x", -1, 0), ("x", 0, -1), ("x", 2, 0), ("x", 0, 2), ("x", 2, 2), ("x", -1, -1), ("x", 99, 0)]:
            self.fails(BadStep, {"position": 0}, run_plan, boxes, [bad, bad])
        self.fails(BadStep, {"position": 1}, run_plan, boxes, [good, ("x", 3, 0), ("x", -1, 0)])
        self.fails(BadStep, {"position": 1}, run_plan, boxes, [good, ("x", 2, 3)])
        self.fails(BadStep, {"position": 2}, run_plan, boxes, [good, ("x", 2, 2), ("x", 0, -4)])
        self.fails(BadStep, {"position": 0}, run_plan, [], [good])

    def test_full_size(self):
        names = ["a", "b", "c", "d", "e"]
        boxes = [{name: list(range(number % 3, 20)) for name in names} for number in range(24)]
        steps = [(names[k % 5], 23 + k, k) for k in range(300)]
        known = self.ask(run_plan, boxes, steps)
        self.assertEqual(len(known), 324)
        for k, (name, first, second) in enumerate(steps):
            self.assertEqual(known[24 + k], join_boxes(known[first], known[second], name))


if __name__ == "__main__":
    unittest.main()
