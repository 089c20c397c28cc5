"""[k1] to [k4]: started lots, balances, the last day, shortages, and which plans work."""

import unittest

from latestart.balances import balance, last_day, shortages, started, works
from latestart.bills import read_bill

from tests.made_up import made_up_plans

EXAMPLE = read_bill("wheel: ; 3 days; 4 yields 4\nbicycle: 2 wheel; 2 days; 1 yields 1")


def day_by_day(bill, books, plan, item, days):
    """The balances of an item on the days from today on: what comes and goes, carried from day to day."""
    today, stock, receipts, orders = books
    here = stock[item]
    found = []
    for day in range(today, days):
        for other, when, quantity in receipts:
            if (other, when) == (item, day):
                here += quantity
        for _, other, quantity, when in orders:
            if (other, when) == (item, day):
                here -= quantity
        for other, when, lots in plan:
            _, parts, lead, lot, good = bill[other]
            if (other, when + lead) == (item, day):
                here += lots * good
            if when == day:
                here -= sum(lots * lot * quantity for part, quantity in parts if part == item)
        found.append(here)
    return found


def balances(bill, books, plan, item, days):
    return [balance(bill, books, plan, item, day) for day in days]


class Started(unittest.TestCase):
    PLAN = ((0, 3, 2), (1, 2, 1), (1, 5, 10), (1, 6, 100), (2, 5, 1000))

    def test_before_on_and_behind_the_days_of_the_starts(self):
        self.assertEqual([started(self.PLAN, 1, day) for day in range(8)], [0, 0, 1, 1, 1, 11, 111, 111])
        self.assertEqual([started(self.PLAN, 0, day) for day in (-1, 2, 3, 4, 200)], [0, 0, 2, 2, 2])
        self.assertEqual([started(self.PLAN, 2, day) for day in (4, 5, 200)], [0, 1000, 1000])

    def test_an_item_that_is_not_started(self):
        self.assertEqual(started(self.PLAN, 3, 200), 0)
        self.assertEqual(started((), 0, 200), 0)


class Balance(unittest.TestCase):
    def test_the_example_of_the_interface(self):
        books = (0, (3, 0), (), ((1, 1, 2, 6),))
        plan = ((0, 2, 1), (1, 4, 2))
        self.assertEqual(balances(EXAMPLE, books, plan, 0, (3, 4, 5)), [3, -1, 3])
        self.assertEqual(shortages(EXAMPLE, books, plan), [(4, 0, 1)])
        self.assertIs(works(EXAMPLE, books, plan), False)

    def test_the_stock_is_there_on_today(self):
        self.assertEqual(balances(EXAMPLE, (4, (3, 5), (), ()), (), 0, (4, 5, 200)), [3, 3, 3])
        self.assertEqual(balances(EXAMPLE, (4, (3, 5), (), ()), (), 1, (4, 5, 200)), [5, 5, 5])

    def test_receipts_are_there_on_their_days(self):
        books = (0, (1, 0), ((0, 3, 10), (1, 2, 7), (0, 3, 100), (0, 5, 1000)), ())
        self.assertEqual(balances(EXAMPLE, books, (), 0, range(7)), [1, 1, 1, 111, 111, 1111, 1111])
        self.assertEqual(balances(EXAMPLE, books, (), 1, range(4)), [0, 0, 7, 7])

    def test_orders_take_on_their_days(self):
        books = (0, (1, 0), (), ((1, 0, 10, 3), (5, 1, 7, 2), (6, 0, 100, 3), (9, 0, 1000, 5)))
        self.assertEqual(balances(EXAMPLE, books, (), 0, range(7)), [1, 1, 1, -109, -109, -1109, -1109])
        self.assertEqual(balances(EXAMPLE, books, (), 1, range(4)), [0, 0, -7, -7])

    def test_the_yield_is_there_the_lead_later(self):
        bill = read_bill("a: ; 3 days; 5 yields 2")
        books = (1, (0,), (), ())
        self.assertEqual(balances(bill, books, ((0, 2, 1),), 0, range(1, 8)), [0, 0, 0, 0, 2, 2, 2])
        self.assertEqual(balances(bill, books, ((0, 1, 3), (0, 2, 10)), 0, range(1, 7)), [0, 0, 0, 6, 26, 26])

    def test_a_lead_of_0(self):
        bill = read_bill("a: ; 0 days; 5 yields 2\nb: 3 a; 0 days; 4 yields 1")
        books = (1, (0, 0), (), ((1, 1, 2, 3),))
        self.assertEqual(balances(bill, books, ((0, 3, 12), (1, 3, 2)), 0, range(1, 5)), [0, 0, 0, 0])
        self.assertEqual(balances(bill, books, ((0, 3, 12), (1, 3, 2)), 1, range(1, 5)), [0, 0, 0, 0])
        self.assertIs(works(bill, books, ((0, 3, 12), (1, 3, 2))), True)

    def test_a_lot_takes_whole_and_yields_less(self):
        bill = read_bill("a: ; 1 days; 1 yields 1\nb: 3 a; 2 days; 10 yields 7")
        books = (0, (100, 0), (), ())
        self.assertEqual(balances(bill, books, ((1, 4, 2),), 0, range(3, 7)), [100, 40, 40, 40])
        self.assertEqual(balances(bill, books, ((1, 4, 2),), 1, range(3, 8)), [0, 0, 0, 14, 14])

    def test_a_lot_takes_on_the_day_of_its_start_whatever_its_lead(self):
        for lead in (0, 1, 10):
            bill = read_bill(f"a: ; 0 days; 1 yields 1\nb: a; {lead} days; 1 yields 1")
            self.assertEqual(balances(bill, (0, (5, 0), (), ()), ((1, 4, 2),), 0, (3, 4, 5)), [5, 3, 3])

    def test_an_item_that_several_others_use(self):
        bill = read_bill("b: 2 a; 1 days; 3 yields 3\na: ; 1 days; 1 yields 1\nc: a; 1 days; 10 yields 1\n"
                         "d: b; 1 days; 1 yields 1")
        books = (0, (0, 1000, 0, 0), (), ((7, 1, 100, 5),))
        plan = ((0, 3, 1), (0, 4, 2), (1, 1, 50), (2, 4, 4), (3, 2, 9))
        self.assertEqual(balances(bill, books, plan, 1, range(7)), [1000, 1000, 1050, 1044, 992, 892, 892])

    def test_several_parts_of_one_item(self):
        bill = read_bill("a: ; 1 days; 1 yields 1\nb: 2 a, c, 3 a; 1 days; 7 yields 3\nc: ; 1 days; 1 yields 1")
        books = (0, (100, 0, 100), (), ())
        self.assertEqual(balances(bill, books, ((1, 2, 2),), 0, (1, 2, 3)), [100, 30, 30])
        self.assertEqual(balances(bill, books, ((1, 2, 2),), 2, (1, 2, 3)), [100, 86, 86])

    def test_made_up_plans(self):
        for bill, books, plan in made_up_plans(100, "balances"):
            for item in range(len(bill)):
                with self.subTest(bill=bill, books=books, plan=plan, item=item):
                    self.assertEqual(balances(bill, books, plan, item, range(books[0], 212)),
                                     day_by_day(bill, books, plan, item, 212))


class LastDay(unittest.TestCase):
    BOOKS = (5, (0, 0), ((0, 7, 1), (0, 6, 1)), ((1, 1, 1, 8), (2, 0, 1, 7)))
    PLAN = ((0, 6, 1), (1, 5, 1))

    def test_today(self):
        self.assertEqual(last_day(EXAMPLE, (5, (0, 0), (), ()), ()), 5)
        self.assertEqual(last_day((), (0, (), (), ()), ()), 0)

    def test_the_day_of_a_receipt(self):
        self.assertEqual(last_day(EXAMPLE, (5, (0, 0), ((0, 5, 1),), ()), ()), 5)
        for receipts in (((0, 50, 1), (1, 7, 1)), ((1, 7, 1), (0, 50, 1))):
            self.assertEqual(last_day(EXAMPLE, (5, (0, 0), receipts, self.BOOKS[3]), self.PLAN), 50)

    def test_the_day_of_an_order(self):
        for orders in (((90, 0, 3, 50), (91, 1, 4, 7)), ((90, 1, 4, 7), (91, 0, 3, 50))):
            self.assertEqual(last_day(EXAMPLE, (5, (0, 0), self.BOOKS[2], orders), self.PLAN), 50)

    def test_the_day_of_a_yield(self):
        self.assertEqual(last_day(EXAMPLE, self.BOOKS, self.PLAN), 9)
        self.assertEqual(last_day(EXAMPLE, self.BOOKS, ((0, 40, 1), (1, 40, 1))), 43)
        self.assertEqual(last_day(EXAMPLE, self.BOOKS, ((0, 40, 1), (1, 42, 1))), 44)
        self.assertEqual(last_day(read_bill("a: ; 10 days; 1 yields 1"), (0, (0,), (), ()), ((0, 200, 1),)), 210)

    def test_the_day_of_a_start_with_a_lead_of_0(self):
        bill = read_bill("a: ; 0 days; 1 yields 1\nb: a; 4 days; 1 yields 1")
        self.assertEqual(last_day(bill, self.BOOKS, ((0, 30, 1), (1, 25, 1))), 30)

    def test_balances_change_on_this_day_and_on_none_behind_it(self):
        for bill, books, plan in made_up_plans(150, "last day"):
            last = last_day(bill, books, plan)
            moved = [day for item in range(len(bill)) for day in range(books[0], 212)
                     if balance(bill, books, plan, item, day) != balance(bill, books, plan, item, day - 1)]
            with self.subTest(bill=bill, books=books, plan=plan):
                self.assertLessEqual(max(moved, default=books[0]), last)
                days = [books[0]] + [entry[1] for entry in (*books[2], *plan)] + [entry[3] for entry in books[3]]
                self.assertEqual(last, max(days + [day + bill[item][2] for item, day, _ in plan]))


class Shortages(unittest.TestCase):
    def test_none(self):
        self.assertEqual(shortages((), (0, (), (), ()), ()), [])
        self.assertEqual(shortages(EXAMPLE, (0, (0, 0), (), ()), ()), [])
        self.assertEqual(shortages(EXAMPLE, (0, (3, 0), (), ((1, 1, 2, 6),)), ((0, 1, 1), (1, 4, 2))), [])

    def test_a_balance_of_0_is_none_and_of_1_less_is_one(self):
        self.assertEqual(shortages(EXAMPLE, (0, (5, 0), (), ((1, 0, 5, 3),)), ()), [])
        self.assertEqual(shortages(EXAMPLE, (0, (5, 0), (), ((1, 0, 6, 3),)), ()), [(3, 0, 1)])

    def test_on_today(self):
        self.assertEqual(shortages(EXAMPLE, (4, (2, 0), (), ((1, 0, 9, 4),)), ()), [(4, 0, 7)])
        self.assertEqual(shortages(EXAMPLE, (4, (2, 0), (), ((1, 0, 2, 4),)), ()), [])
        self.assertEqual(shortages(EXAMPLE, (0, (2, 0), (), ()), ((1, 0, 2),)), [(0, 0, 2)])

    def test_one_for_each_time_that_a_balance_falls_below_0(self):
        receipts = ((0, 5, 3), (0, 9, 1))
        orders = ((1, 0, 3, 2), (2, 0, 1, 3), (3, 0, 2, 7), (4, 0, 1, 8))
        self.assertEqual(shortages(EXAMPLE, (0, (1, 0), receipts, orders), ()), [(2, 0, 2), (7, 0, 2)])

    def test_a_balance_that_falls_further_is_no_second_one(self):
        orders = ((1, 0, 3, 2), (2, 0, 1, 3), (3, 0, 2, 4))
        self.assertEqual(shortages(EXAMPLE, (0, (0, 0), ((0, 6, 2),), orders), ()), [(2, 0, 3)])

    def test_a_balance_that_rises_to_below_0_and_falls_again_is_no_second_one(self):
        orders = ((1, 0, 3, 2), (2, 0, 5, 4))
        self.assertEqual(shortages(EXAMPLE, (0, (0, 0), ((0, 3, 2),), orders), ()), [(2, 0, 3)])

    def test_a_balance_that_rises_to_0_and_falls_again_is_one(self):
        orders = ((1, 0, 3, 2), (2, 0, 5, 4))
        self.assertEqual(shortages(EXAMPLE, (0, (0, 0), ((0, 3, 3),), orders), ()), [(2, 0, 3), (4, 0, 5)])

    def test_what_comes_and_goes_on_one_day_is_summed_first(self):
        books = (0, (0, 0), ((0, 3, 5),), ((1, 0, 5, 3),))
        self.assertEqual(shortages(EXAMPLE, books, ()), [])

    def test_sorted_by_days_then_by_items(self):
        orders = ((1, 1, 4, 2), (2, 0, 5, 2), (3, 0, 6, 9), (4, 1, 7, 1))
        self.assertEqual(shortages(EXAMPLE, (0, (0, 0), ((0, 4, 5),), orders), ()),
                         [(1, 1, 7), (2, 0, 5), (9, 0, 6)])
        self.assertEqual(shortages(EXAMPLE, (0, (0, 0), (), ((1, 1, 4, 2), (2, 0, 5, 2))), ()), [(2, 0, 5), (2, 1, 4)])

    def test_parts_that_are_not_there_when_a_lot_is_started(self):
        books = (0, (0, 0), (), ((1, 1, 2, 6),))
        self.assertEqual(shortages(EXAMPLE, books, ((0, 1, 1), (1, 4, 2))), [])
        self.assertEqual(shortages(EXAMPLE, books, ((0, 2, 1), (1, 4, 2))), [(4, 0, 4)])
        self.assertEqual(shortages(EXAMPLE, books, ((0, 1, 1), (1, 5, 2))), [(6, 1, 2)])
        self.assertEqual(shortages(EXAMPLE, books, ((0, 1, 1),)), [(6, 1, 2)])

    def test_none_on_a_day_before_today(self):
        # An order of an earlier day is none of [c3]; what it takes is missing from today on.
        self.assertEqual(shortages(EXAMPLE, (5, (1, 0), (), ((1, 0, 3, 4),)), ()), [(5, 0, 2)])
        self.assertEqual(shortages(EXAMPLE, (5, (1, 0), ((0, 5, 2),), ((1, 0, 3, 4),)), ()), [])
        for bill, books, plan in made_up_plans(100, "before today"):
            self.assertEqual([found for found in shortages(bill, books, plan) if found[0] < books[0]], [])

    def test_made_up_plans(self):
        several = 0
        for bill, books, plan in made_up_plans(400, "shortages"):
            today = books[0]
            expected = []
            for item in range(len(bill)):
                found = day_by_day(bill, books, plan, item, 212)
                expected.extend((today + at, item, -now) for at, now in enumerate(found)
                                if now < 0 and (at == 0 or found[at - 1] >= 0))
            several += len(expected) > 1
            with self.subTest(bill=bill, books=books, plan=plan):
                self.assertEqual(shortages(bill, books, plan), sorted(expected))
                self.assertIs(works(bill, books, plan), expected == [])
        self.assertGreater(several, 100)


class Works(unittest.TestCase):
    def test_with_and_without_a_shortage(self):
        books = (0, (3, 0), (), ((1, 1, 2, 6),))
        for plan, expected in ((((0, 1, 1), (1, 4, 2)), True), (((0, 0, 1), (1, 3, 1), (1, 4, 1)), True),
                               (((0, 1, 1), (1, 4, 1)), False), (((1, 4, 2),), False), ((), False),
                               (((0, 1, 1), (1, 5, 2)), False), (((0, 0, 2), (1, 0, 1), (1, 4, 2)), True)):
            with self.subTest(plan=plan):
                self.assertIs(works(EXAMPLE, books, plan), expected)

    def test_the_empty_plan(self):
        self.assertIs(works((), (0, (), (), ()), ()), True)
        self.assertIs(works(EXAMPLE, (7, (0, 2), (), ((1, 1, 2, 7),)), ()), True)
        self.assertIs(works(EXAMPLE, (7, (0, 1), (), ((1, 1, 2, 7),)), ()), False)

    def test_pieces_that_come_too_late(self):
        bill = read_bill("a: ; 3 days; 1 yields 1")
        books = (0, (0,), (), ((1, 0, 1, 5),))
        self.assertEqual([works(bill, books, ((0, day, 1),)) for day in range(5)], [True] * 3 + [False] * 2)
        self.assertEqual([works(bill, (0, (0,), ((0, day, 1),), books[3]), ()) for day in range(8)],
                         [True] * 6 + [False] * 2)


if __name__ == "__main__":
    unittest.main()
