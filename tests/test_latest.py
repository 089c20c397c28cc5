"""[n2] and [n3]: whether a plan works, the latest plan, and what it starts today."""

import itertools
import unittest

from latestart.balances import started, works
from latestart.bills import read_bill
from latestart.books import check_plan
from latestart.errors import NoPlan
from latestart.latest import can_work, latest_plan, starts_today

from tests.asking import plan_or_none
from tests.by_days import HIGH, lots_by_days
from tests.made_up import made_up

EXAMPLE = read_bill("wheel: ; 3 days; 4 yields 4\nbicycle: 2 wheel; 2 days; 1 yields 1")

# Small enough that all their plans of 3 days with few lots can be tried.
SMALL_BILLS = tuple(read_bill(text) for text in (
    "a: ; 1 days; 1 yields 1",
    "a: ; 0 days; 2 yields 1",
    "a: b; 0 days; 1 yields 1\nb: ; 0 days; 1 yields 1",
    "a: ; 1 days; 2 yields 2\nb: a; 0 days; 1 yields 1",
    "a: 2 b; 1 days; 2 yields 1\nb: ; 1 days; 3 yields 3",
    "a: b; 1 days; 1 yields 1\nb: ; 0 days; 2 yields 1",
))


def small_books(bill):
    """Yields books of the first three days, with all orders and receipts of a few kinds."""
    size = len(bill)
    for pieces, item, ordered, day, received in itertools.product((0, 1), range(size), (1, 2), range(3), (None, 1, 2)):
        receipts = () if received is None else ((size - 1, received, 1),)
        for more in ((), ((9, 0, 1, 1),)):
            yield 0, (pieces,) * size, receipts, ((1, item, ordered, day), *more)


def small_plans(bill):
    """All plans of the first three days with up to 3 lots of one item, or 2 of each of two, on each day."""
    places = list(itertools.product(range(len(bill)), range(3)))
    most = 3 if len(bill) == 1 else 2
    for lots in itertools.product(range(most + 1), repeat=len(places)):
        yield tuple((*place, many) for place, many in zip(places, lots) if many)


def without(plan, at, lots):
    """A plan with so many lots less of one of its starts."""
    item, day, many = plan[at]
    return (*plan[:at], *(((item, day, many - lots),) if many > lots else ()), *plan[at + 1:])


def later(plan, at, lots):
    """A plan that starts so many lots of one of its starts a day later."""
    item, day, _ = plan[at]
    starts = {entry[:2]: entry[2] for entry in without(plan, at, lots)}
    starts[item, day + 1] = starts.get((item, day + 1), 0) + lots
    return tuple((*place, starts[place]) for place in sorted(starts))


class Example(unittest.TestCase):
    def test_the_example_of_the_interface(self):
        books = (0, (3, 0), (), ((1, 1, 2, 6),))
        self.assertEqual(latest_plan(EXAMPLE, books), ((0, 1, 1), (1, 4, 2)))
        self.assertIs(can_work(EXAMPLE, books), True)
        self.assertEqual(starts_today(EXAMPLE, books), [])

    def test_day_after_day(self):
        for today, expected in ((0, []), (1, [(0, 1)])):
            self.assertEqual(starts_today(EXAMPLE, (today, (3, 0), (), ((1, 1, 2, 6),))), expected)
        self.assertIs(can_work(EXAMPLE, (2, (3, 0), (), ((1, 1, 2, 6),))), False)
        self.assertEqual(starts_today(EXAMPLE, (4, (4, 0), (), ((1, 1, 2, 6),))), [(1, 2)])


class NoNeeds(unittest.TestCase):
    def test_the_empty_plan(self):
        for bill, books in (((), (0, (), (), ())), (EXAMPLE, (200, (0, 0), (), ())),
                            (EXAMPLE, (5, (0, 2), (), ((1, 1, 2, 5),)))):
            with self.subTest(bill=bill, books=books):
                self.assertEqual(latest_plan(bill, books), ())
                self.assertEqual(starts_today(bill, books), [])
                self.assertIs(can_work(bill, books), True)


class Bounds(unittest.TestCase):
    def test_lots_that_are_needed_by_today_and_by_the_day_before(self):
        bill = read_bill("a: ; 3 days; 1 yields 1")
        for today in (0, 1, 50, 197):
            books = (today, (0,), (), ((1, 0, 2, today + 3),))
            self.assertIs(can_work(bill, books), True)
            self.assertEqual(latest_plan(bill, books), ((0, today, 2),))
            self.assertEqual(starts_today(bill, books), [(0, 2)])
            books = (today, (0,), (), ((1, 0, 2, today + 2), (2, 0, 1, today + 3)))
            self.assertIs(can_work(bill, books), False)
            for function in (latest_plan, starts_today):
                with self.assertRaises(NoPlan):
                    function(bill, books)

    def test_only_the_parts_are_needed_before_today(self):
        books = (4, (1, 0), (), ((1, 1, 2, 6),))
        self.assertIs(can_work(EXAMPLE, books), False)
        self.assertIsNone(plan_or_none(EXAMPLE, books))

    def test_on_the_last_day(self):
        bill = read_bill("a: b; 0 days; 1 yields 1\nb: ; 0 days; 5 yields 2")
        self.assertEqual(latest_plan(bill, (200, (0, 0), (), ((1, 0, 3, 200),))), ((0, 200, 3), (1, 200, 2)))

    def test_the_plan_is_sorted_by_items_whatever_uses_them(self):
        bill = read_bill("a: ; 1 days; 1 yields 1\nb: a; 1 days; 1 yields 1\nc: a; 1 days; 1 yields 1")
        books = (0, (0, 0, 0), (), ((1, 2, 1, 9), (2, 1, 1, 9), (3, 0, 5, 4), (4, 2, 3, 6)))
        self.assertEqual(latest_plan(bill, books),
                         ((0, 3, 5), (0, 4, 3), (0, 7, 2), (1, 8, 1), (2, 5, 3), (2, 8, 1)))

    def test_starts_of_today_alone_by_rising_items(self):
        bill = read_bill("a: ; 1 days; 1 yields 1\nb: ; 2 days; 1 yields 1\nc: ; 1 days; 1 yields 1")
        books = (7, (0, 0, 0), (), ((1, 2, 4, 8), (2, 1, 5, 10), (3, 0, 6, 8), (4, 2, 1, 9)))
        self.assertEqual(starts_today(bill, books), [(0, 6), (2, 4)])


class MadeUp(unittest.TestCase):
    def test_plans_that_work(self):
        starts = 0
        for bill, books in made_up(400, "latest"):
            plan = plan_or_none(bill, books)
            if plan is None:
                continue
            lots = lots_by_days(bill, books)
            starts += len(plan)
            with self.subTest(bill=bill, books=books):
                self.assertIs(type(plan), tuple)
                self.assertIsNone(check_plan(bill, books, plan))
                self.assertEqual(plan, tuple(sorted(plan)))
                self.assertIs(works(bill, books, plan), True)
                for item in range(len(bill)):
                    for day in range(books[0] - 1, HIGH):
                        self.assertEqual(started(plan, item, day), lots[item][day])
        self.assertGreater(starts, 300)

    def test_no_plan_exactly_if_lots_are_needed_before_today(self):
        found = {True: 0, False: 0}
        for bill, books in made_up(500, "no plan"):
            possible = not any(lots[books[0] - 1] for lots in lots_by_days(bill, books))
            found[possible] += 1
            with self.subTest(bill=bill, books=books):
                self.assertIs(can_work(bill, books), possible)
                self.assertEqual(plan_or_none(bill, books) is None, not possible)
                if possible:
                    self.assertEqual(starts_today(bill, books), [(item, lots) for item, day, lots
                                                                 in latest_plan(bill, books) if day == books[0]])
                else:
                    with self.assertRaises(NoPlan):
                        starts_today(bill, books)
        self.assertGreater(min(found.values()), 80)

    def test_no_start_can_be_a_day_later_or_a_lot_less(self):
        tried = 0
        for bill, books in made_up(150, "later"):
            plan = plan_or_none(bill, books) or ()
            for at, start in enumerate(plan):
                for lots in sorted({1, start[2]}):
                    tried += 1
                    with self.subTest(bill=bill, books=books, at=at, lots=lots):
                        self.assertIs(works(bill, books, without(plan, at, lots)), False)
                        self.assertIs(works(bill, books, later(plan, at, lots)), False)
        self.assertGreater(tried, 150)


class AllPlans(unittest.TestCase):
    def test_some_plan_works_exactly_if_the_latest_one_does_and_none_starts_less(self):
        found = {True: 0, False: 0}
        for bill in SMALL_BILLS:
            plans = list(small_plans(bill))
            for books in list(small_books(bill))[::3 if len(bill) == 1 else 7]:
                working = [plan for plan in plans if works(bill, books, plan)]
                latest = plan_or_none(bill, books)
                found[latest is not None] += 1
                with self.subTest(bill=bill, books=books):
                    if latest is None:
                        self.assertEqual(working, [])
                        self.assertIs(can_work(bill, books), False)
                    else:
                        self.assertIs(can_work(bill, books), True)
                        self.assertIs(works(bill, books, latest), True)
                        self.expect_no_fewer(bill, latest, working)
        self.assertGreater(min(found.values()), 20)

    def expect_no_fewer(self, bill, latest, working):
        for item, day in itertools.product(range(len(bill)), range(3)):
            fewest = started(latest, item, day)
            self.assertEqual([plan for plan in working if started(plan, item, day) < fewest], [])


if __name__ == "__main__":
    unittest.main()
