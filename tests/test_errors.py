import unittest

from curbdesk import errors

SAMPLES = {
    "UnknownName": {"name": "x"},
    "RepeatedName": {"name": "x"},
    "UnknownValue": {"name": "x", "value": -3},
    "RepeatedValue": {"value": 5},
    "UnknownKey": {"key": "r"},
    "RepeatedKey": {"key": "r"},
    "EmptyRule": {},
    "BadRow": {"row": (1, 2)},
    "BadBounds": {"low": 4, "high": 3},
    "BadNumber": {"number": -1},
    "BadStep": {"position": 0},
    "NoMark": {"number": 2},
    "NotStruck": {"name": "x", "value": 0},
    "BadOrder": {"names": ("x", "x")},
    "NotBare": {"found": {"x": 1}},
    "NoClash": {},
    "HoldsAnswer": {"answer": {"x": 1, "y": 2}},
    "BadLine": {"number": 3, "fault": "box"},
    "UnknownLine": {"number": 7},
    "BadText": {"number": 1},
    "NothingToUndo": {},
    "NothingToRedo": {},
    "UnknownStep": {"number": 9},
    "BadDeed": {"position": 2},
}


class ErrorsTest(unittest.TestCase):
    def test_base_class(self):
        self.assertEqual(errors.DeskError.__bases__, (ValueError,))

    def test_all_classes_and_no_others(self):
        found = {
            name
            for name, thing in vars(errors).items()
            if isinstance(thing, type) and thing is not errors.DeskError
        }
        self.assertEqual(found, set(SAMPLES))

    def test_each_is_a_direct_subclass(self):
        for name in SAMPLES:
            self.assertEqual(getattr(errors, name).__bases__, (errors.DeskError,), name)

    def test_attributes_by_position(self):
        for name, attributes in SAMPLES.items():
            error = getattr(errors, name)(*attributes.values())
            self.assertEqual(vars(error), attributes, name)
            self.assertIsInstance(error, errors.DeskError)
            self.assertIsInstance(error, ValueError)

    def test_kinds_of_the_attributes(self):
        self.assertIs(type(errors.BadRow((1, 2)).row), tuple)
        self.assertIs(type(errors.BadOrder(("x",)).names), tuple)
        self.assertIs(type(errors.NotBare({"x": 1}).found), dict)
        self.assertIs(type(errors.HoldsAnswer({"x": 1}).answer), dict)

    def test_dictionaries_are_copied(self):
        values = {"x": 1}
        bare = errors.NotBare(values)
        holds = errors.HoldsAnswer(values)
        values["x"] = 2
        self.assertEqual(bare.found, {"x": 1})
        self.assertEqual(holds.answer, {"x": 1})
        bare.found["y"] = 3
        self.assertEqual(values, {"x": 2})
        self.assertEqual(holds.answer, {"x": 1})

    def test_each_is_caught_as_desk_error(self):
        for name, attributes in SAMPLES.items():
            with self.assertRaises(errors.DeskError):
                raise getattr(errors, name)(*attributes.values())


if __name__ == "__main__":
    unittest.main()
