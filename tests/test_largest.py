import itertools
import math
import unittest

from curbdesk.largest import largest_boxes
from tests.support import DeskCase, held, random_box, seeded


def parts(side):
    return [list(part) for size in range(1, len(side) + 1) for part in itertools.combinations(side, size)]


def slow_largest(boxes):
    """Return the largest boxes as the document describes them, by looking at every box."""
    if not boxes:
        return []
    names = sorted(boxes[0])
    values = {name: sorted({value for box in boxes for value in box[name]}) for name in names}
    points = itertools.product(*(values[name] for name in names))
    held_points = {point for point in points if any(held(box, dict(zip(names, point))) for box in boxes)}
    covered = [
        sides
        for sides in itertools.product(*(parts(values[name]) for name in names))
        if held_points.issuperset(itertools.product(*sides))
    ]
    # Larger ones first: a box can only be within one that has more assignments.
    covered.sort(key=lambda sides: -math.prod(len(side) for side in sides))
    kept = []
    for sides in covered:
        if not any(all(set(side) <= other for side, other in zip(sides, large)) for large in kept):
            kept.append([set(side) for side in sides])
    return [dict(zip(names, sides)) for sides in sorted([sorted(side) for side in sides] for sides in kept)]


class LargestTest(DeskCase):
    def test_no_boxes(self):
        self.assertEqual(self.ask(largest_boxes, []), [])

    def test_boxes_with_empty_sides(self):
        self.assertEqual(self.ask(largest_boxes, [{"x": []}]), [])
        self.assertEqual(self.ask(largest_boxes, [{"x": [], "y": [1]}, {"x": [2], "y": []}]), [])
        self.assertEqual(
            self.ask(largest_boxes, [{"x": [], "y": [1]}, {"x": [2], "y": [3]}]), [{"x": [2], "y": [3]}]
        )

    def test_one_name(self):
        self.assertEqual(self.ask(largest_boxes, [{"x": [4]}, {"x": [1, 3]}, {"x": []}]), [{"x": [1, 3, 4]}])

    def test_joined_box_takes_the_place_of_its_parts(self):
        boxes = [{"x": [1], "y": [1, 2]}, {"x": [2], "y": [1, 2]}, {"x": [2], "y": [1]}]
        self.assertEqual(self.ask(largest_boxes, boxes), [{"x": [1, 2], "y": [1, 2]}])

    def test_boxes_that_cross(self):
        boxes = [{"x": [1, 2], "y": [1]}, {"x": [2], "y": [1, 2]}]
        self.assertEqual(self.ask(largest_boxes, boxes), boxes)

    def test_each_once(self):
        box = {"x": [1], "y": [5]}
        self.assertEqual(self.ask(largest_boxes, [box, box, {"y": [5], "x": [1]}]), [box])

    def test_order_of_the_result(self):
        boxes = [{"x": [2], "y": [0]}, {"x": [1, 3], "y": [1]}]
        self.assertEqual(self.ask(largest_boxes, boxes), [{"x": [1, 3], "y": [1]}, {"x": [2], "y": [0]}])
        # The names count in ascending order, however the boxes list them.
        boxes = [{"y": [1], "x": [5]}, {"y": [2], "x": [4]}]
        self.assertEqual(self.ask(largest_boxes, boxes), [{"x": [4], "y": [2]}, {"x": [5], "y": [1]}])
        boxes = [{"b": [-10], "a2": [1], "a10": [9]}, {"b": [3], "a2": [0], "a10": [10]}]
        self.assertEqual(self.ask(largest_boxes, boxes), boxes)

    def test_every_largest_box_is_new(self):
        boxes = [{"x": [1], "y": [1, 2]}, {"x": [2], "y": [2, 3]}, {"x": [3], "y": [1, 2]}]
        self.assertEqual(self.ask(largest_boxes, boxes), slow_largest(boxes))

    def test_random(self):
        source = seeded(12)
        several = 0
        for _ in range(150):
            names = source.sample(["x", "y", "z"], source.randint(1, 3))
            boxes = [random_box(source, names, 3) for _ in range(source.randint(0, 9))]
            expected = slow_largest(boxes)
            self.assertEqual(self.ask(largest_boxes, boxes), expected)
            several += len(expected) > 2
        self.assertGreater(several, 20)

    def test_full_size(self):
        source = seeded(3)
        for _ in range(3):
            boxes = [random_box(source, ["x", "y", "z"], 4, least=1) for _ in range(16)]
            self.assertEqual(self.ask(largest_boxes, boxes), slow_largest(boxes))

    def test_full_size_with_many_largest_boxes(self):
        values = [-1, 0, 1, 2]
        boxes = [{"x": [p], "y": [q], "z": [v for v in values if v != (p + q) % 4 - 1]} for p in values for q in values]
        found = self.ask(largest_boxes, boxes)
        self.assertEqual(found, slow_largest(boxes))
        self.assertGreater(len(found), 40)


if __name__ == "__main__":
    unittest.main()
