import unittest

from curbdesk.errors import BadNumber, UnknownValue
from curbdesk.ranks import assignment_at, number_of
from tests.support import DeskCase, all_in, random_side, seeded, wide_box

DOMAINS = [("x", [1, 5]), ("y", [2, 3, 4])]


class RanksTest(DeskCase):
    def test_examples(self):
        self.assertEqual(self.ask(number_of, DOMAINS, {"x": 5, "y": 3}), 4)
        self.assertEqual(self.ask(assignment_at, DOMAINS, 4), {"x": 5, "y": 3})

    def test_first_name_counts_most(self):
        self.assertEqual(self.ask(assignment_at, DOMAINS, 0), {"x": 1, "y": 2})
        self.assertEqual(self.ask(assignment_at, DOMAINS, 1), {"x": 1, "y": 3})
        self.assertEqual(self.ask(assignment_at, DOMAINS, 5), {"x": 5, "y": 4})

    def test_numbers_that_do_not_exist(self):
        for number in (-1, -6, 6, 7, 10 ** 30, -10 ** 30):
            self.fails(BadNumber, {"number": number}, assignment_at, DOMAINS, number)

    def test_domains_without_names(self):
        self.assertEqual(self.ask(assignment_at, [], 0), {})
        self.assertEqual(self.ask(number_of, [], {}), 0)
        self.assertEqual(self.ask(number_of, [], {"x": 3}), 0)
        self.fails(BadNumber, {"number": 1}, assignment_at, [], 1)
        self.fails(BadNumber, {"number": -1}, assignment_at, [], -1)

    def test_empty_domain(self):
        for domains in ([("x", [])], [("x", [1]), ("y", [])], [("y", []), ("x", [1])]):
            for number in (-1, 0, 1):
                self.fails(BadNumber, {"number": number}, assignment_at, domains, number)
        self.fails(UnknownValue, {"name": "x", "value": 1}, number_of, [("x", [])], {"x": 1})

    def test_unknown_value(self):
        self.fails(UnknownValue, {"name": "x", "value": 2}, number_of, DOMAINS, {"x": 2, "y": 3})
        self.fails(UnknownValue, {"name": "y", "value": 5}, number_of, DOMAINS, {"x": 1, "y": 5})

    def test_first_unknown_value_in_the_order_of_the_domains(self):
        self.fails(UnknownValue, {"name": "x", "value": 9}, number_of, DOMAINS, {"y": 8, "x": 9})
        turned = list(reversed(DOMAINS))
        self.fails(UnknownValue, {"name": "y", "value": 8}, number_of, turned, {"x": 9, "y": 8})

    def test_other_names_do_not_matter(self):
        self.assertEqual(number_of(DOMAINS, {"z": 77, "y": 2, "x": 1}), 0)

    def test_all_numbers(self):
        source = seeded(9)
        for _ in range(60):
            names = source.sample(["a", "b", "c", "d"], source.randint(0, 4))
            domains = [(name, random_side(source, 4)) for name in names]
            in_order = all_in(dict(domains))
            for number, values in enumerate(in_order):
                self.assertEqual(assignment_at(domains, number), values)
                self.assertEqual(number_of(domains, values), number)
            self.fails(BadNumber, {"number": len(in_order)}, assignment_at, domains, len(in_order))

    def test_full_size(self):
        domains = list(wide_box().items())
        last = 20 ** 20 - 1
        self.assertEqual(assignment_at(domains, last), {name: 14 for name, _ in domains})
        self.assertEqual(number_of(domains, {name: 14 for name, _ in domains}), last)
        number = 12345678901234567890123456
        self.assertEqual(number_of(domains, self.ask(assignment_at, domains, number)), number)
        self.fails(BadNumber, {"number": last + 1}, assignment_at, domains, last + 1)


if __name__ == "__main__":
    unittest.main()
