"""[c3]: which plans are right, and the index of the first wrong entry of one that is not."""

import copy
import unittest

from latestart.books import check_plan
from latestart.errors import BadPlan

from tests.made_up import made_up_plans
from tests.test_books import BILL, NO_NUMBERS, NO_TUPLES, changed

BOOKS = (5, (0, 0, 0), (), ())
PLAN = ((0, 5, 1), (0, 6, 3), (1, 5, 1), (2, 200, 10))


def wrong_entry(bill, books, plan):
    """The index of the first wrong entry of a plan; None if it is right."""
    before = copy.deepcopy((bill, books, plan))
    at = None
    try:
        found = check_plan(bill, books, plan)
    except BadPlan as error:
        at = error.at
    else:
        assert found is None, found
    assert before == (bill, books, plan), "changed"
    return at


class Entries(unittest.TestCase):
    def right(self, entry, books=BOOKS):
        with self.subTest(right=entry):
            self.assertIsNone(wrong_entry(BILL, books, (entry,)))

    def wrong(self, entry, books=BOOKS):
        """The entry is wrong wherever it stands."""
        for at in range(len(PLAN) + 1):
            with self.subTest(wrong=entry, at=at):
                self.assertEqual(wrong_entry(BILL, books, (*PLAN[:at], entry, *PLAN[at:])), at)

    def test_items(self):
        for item in (0, 1, 2):
            self.right((item, 7, 1))
        for item in (-1, -3, 3, 4, 10 ** 30):
            self.wrong((item, 7, 1))

    def test_items_of_other_bills(self):
        for size in range(9):
            for item in range(-1, 10):
                expected = None if 0 <= item < size else 0
                books = (5, (0,) * size, (), ())
                with self.subTest(size=size, item=item):
                    self.assertEqual(wrong_entry((BILL[1],) * size, books, ((item, 7, 1),)), expected)

    def test_days_from_today_to_200(self):
        for day in (5, 6, 199, 200):
            self.right((1, day, 1))
        for day in (-1, 0, 4, 201, 210, 10 ** 30):
            self.wrong((1, day, 1))
        for today in (0, 1, 200):
            for day in (-1, 0, 1, 2, 199, 200, 201):
                expected = None if today <= day <= 200 else 0
                with self.subTest(today=today, day=day):
                    self.assertEqual(wrong_entry(BILL, changed(BOOKS, 0, today), ((1, day, 1),)), expected)

    def test_lots(self):
        for lots in (1, 2, 500, 501, 10 ** 30):
            self.right((1, 7, lots))
        for lots in (0, -1, -10 ** 30):
            self.wrong((1, 7, lots))

    def test_no_integers(self):
        books = changed(BOOKS, 0, 0)
        for at in range(3):
            for value in NO_NUMBERS:
                for entry in (changed((0, 0, 1), at, value), changed((1, 1, 1), at, value)):
                    with self.subTest(entry=entry):
                        self.assertEqual(wrong_entry(BILL, books, (entry,)), 0)

    def test_no_tuples(self):
        for value in (*NO_TUPLES, [1, 7, 1]):
            self.wrong(value)

    def test_tuples_of_another_length(self):
        for entry in ((), (1,), (1, 7), (1, 7, 1, 1), (1, 7, 1, 1, 1), ((1, 7, 1),)):
            self.wrong(entry)


class Order(unittest.TestCase):
    def test_right_plans(self):
        for plan in ((), PLAN, PLAN[1:], PLAN[::2], ((0, 5, 9), (0, 6, 1)), ((0, 200, 1), (1, 5, 1)),
                     tuple((2, day, 1) for day in range(5, 201))):
            with self.subTest(plan=plan):
                self.assertIsNone(wrong_entry(BILL, BOOKS, plan))

    def test_the_empty_plan_of_the_empty_bill(self):
        self.assertIsNone(wrong_entry((), (0, (), (), ()), ()))
        self.assertEqual(wrong_entry((), (0, (), (), ()), ((0, 0, 1),)), 0)

    def test_an_item_and_day_twice(self):
        for lots in (1, 2, 3):
            self.assertEqual(wrong_entry(BILL, BOOKS, ((1, 7, 2), (1, 7, lots))), 1)
            self.assertEqual(wrong_entry(BILL, BOOKS, ((0, 7, 2), (1, 7, 2), (2, 7, 2), (2, 7, lots))), 3)

    def test_a_day_that_does_not_rise(self):
        self.assertEqual(wrong_entry(BILL, BOOKS, ((1, 7, 1), (1, 6, 2))), 1)
        self.assertEqual(wrong_entry(BILL, BOOKS, ((1, 7, 1), (1, 9, 2), (1, 8, 3), (1, 7, 3))), 2)

    def test_an_item_that_falls(self):
        self.assertEqual(wrong_entry(BILL, BOOKS, ((1, 7, 1), (0, 7, 1))), 1)
        self.assertEqual(wrong_entry(BILL, BOOKS, ((1, 7, 1), (0, 9, 1))), 1)
        self.assertEqual(wrong_entry(BILL, BOOKS, ((0, 5, 1), (2, 7, 1), (1, 8, 1))), 2)

    def test_of_several_wrong_entries_the_first(self):
        self.assertEqual(wrong_entry(BILL, BOOKS, ((1, 7, 1), (1, 7, 1), None)), 1)
        self.assertEqual(wrong_entry(BILL, BOOKS, ((1, 7, 1), None, (1, 7, 1))), 1)
        self.assertEqual(wrong_entry(BILL, BOOKS, (None, None)), 0)
        self.assertEqual(wrong_entry(BILL, BOOKS, ((1, 7, 1), (1, 8, 1), (1, 4, 1), (0, 7, 1))), 2)

    def test_made_up_plans(self):
        for bill, books, plan in made_up_plans(200, "right plans"):
            with self.subTest(bill=bill, books=books, plan=plan):
                self.assertIsNone(wrong_entry(bill, books, plan))
                for at in range(1, len(plan)):
                    twisted = (*plan[:at - 1], plan[at], plan[at - 1], *plan[at + 1:])
                    self.assertEqual(wrong_entry(bill, books, twisted), at)
                    self.assertEqual(wrong_entry(bill, books, (*plan[:at], plan[at - 1], *plan[at:])), at)


if __name__ == "__main__":
    unittest.main()
