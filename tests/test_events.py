"""[v1] to [v4]: the books behind a day that goes by, and behind each other event."""

import random
import unittest

from latestart.bills import read_bill
from latestart.books import check_books
from latestart.errors import BadBooks, NoPlan, NoSuchOrder, PlanError
from latestart.events import after_day, after_event
from latestart.latest import can_work, latest_plan, starts_today

from tests.made_up import made_event, made_small, made_up

EXAMPLE = read_bill("wheel: ; 3 days; 4 yields 4\nbicycle: 2 wheel; 2 days; 1 yields 1")
TODAY = 4
STOCK = (30, 5)
RECEIPTS = ((0, 5, 4), (1, 9, 1), (0, 4, 8))
ORDERS = ((3, 1, 1, 6), (5, 0, 2, 4), (9, 1, 2, 8))
BOOKS = (TODAY, STOCK, RECEIPTS, ORDERS)


def told(bill, books, event):
    """The word of BadBooks, or the name of another error, that an event raises; the books behind it if none."""
    try:
        return after_event(bill, books, event)
    except BadBooks as error:
        return error.word
    except PlanError as error:
        return error.__class__.__name__


def day_again(bill, books):
    """The books of [v2], reckoned item by item, without whether they are right; None if no plan works."""
    today, stock, receipts, orders = books
    if not can_work(bill, books):
        return None
    lots = dict(starts_today(bill, books))
    here = list(stock)
    coming = []
    for item, day, quantity in receipts:
        if day == today:
            here[item] += quantity
        else:
            coming.append((item, day, quantity))
    for item, (_, parts, lead, lot, good) in enumerate(bill):
        if item in lots:
            for part, quantity in parts:
                here[part] -= lots[item] * lot * quantity
            if lead == 0:
                here[item] += lots[item] * good
            else:
                coming.append((item, today + lead, lots[item] * good))
    waiting = []
    for number, item, quantity, day in orders:
        if day == today:
            here[item] -= quantity
        else:
            waiting.append((number, item, quantity, day))
    return today + 1, tuple(here), tuple(coming), tuple(waiting)


class EachKind(unittest.TestCase):
    def expect(self, event, **parts):
        """The parts of the books that are others behind an event."""
        names = ("today", "stock", "receipts", "orders")
        behind = tuple(parts.get(name, part) for name, part in zip(names, BOOKS))
        with self.subTest(event=event):
            self.assertEqual(after_event(EXAMPLE, BOOKS, event), behind)

    def test_moved(self):
        self.expect(("moved", 0, 7), receipts=((0, 7, 4), *RECEIPTS[1:]))
        self.expect(("moved", 1, 4), receipts=(RECEIPTS[0], (1, 4, 1), RECEIPTS[2]))
        self.expect(("moved", 2, 200), receipts=(*RECEIPTS[:2], (0, 200, 8)))
        self.expect(("moved", 1, 9))

    def test_changed(self):
        self.expect(("changed", 0, 1), receipts=((0, 5, 1), *RECEIPTS[1:]))
        self.expect(("changed", 1, 500), receipts=(RECEIPTS[0], (1, 9, 500), RECEIPTS[2]))
        self.expect(("changed", 2, 9), receipts=(*RECEIPTS[:2], (0, 4, 9)))
        self.expect(("changed", 2, 8))

    def test_changed_to_0(self):
        self.expect(("changed", 0, 0), receipts=RECEIPTS[1:])
        self.expect(("changed", 1, 0), receipts=(RECEIPTS[0], RECEIPTS[2]))
        self.expect(("changed", 2, 0), receipts=RECEIPTS[:2])
        self.assertEqual(after_event(EXAMPLE, (0, (0, 0), ((0, 1, 1),), ()), ("changed", 0, 0)), (0, (0, 0), (), ()))

    def test_expected(self):
        self.expect(("expected", 0, 4, 1), receipts=(*RECEIPTS, (0, 4, 1)))
        self.expect(("expected", 1, 200, 500), receipts=(*RECEIPTS, (1, 200, 500)))
        self.expect(("expected", 0, 5, 4), receipts=(*RECEIPTS, (0, 5, 4)))

    def test_counted(self):
        self.expect(("counted", 0, 0), stock=(0, 5))
        self.expect(("counted", 1, 10000), stock=(30, 10000))
        self.expect(("counted", 1, 5))

    def test_scrapped(self):
        self.expect(("scrapped", 0, 1), stock=(29, 5))
        self.expect(("scrapped", 1, 5), stock=(30, 0))
        self.expect(("scrapped", 0, 0))

    def test_ordered_anew(self):
        self.expect(("ordered", 1, 0, 500, 4), orders=((1, 0, 500, 4), *ORDERS))
        self.expect(("ordered", 4, 1, 1, 200), orders=(ORDERS[0], (4, 1, 1, 200), *ORDERS[1:]))
        self.expect(("ordered", 99, 1, 2, 8), orders=(*ORDERS, (99, 1, 2, 8)))

    def test_ordered_in_the_place_of_another(self):
        self.expect(("ordered", 3, 0, 7, 9), orders=((3, 0, 7, 9), *ORDERS[1:]))
        self.expect(("ordered", 5, 0, 2, 5), orders=(ORDERS[0], (5, 0, 2, 5), ORDERS[2]))
        self.expect(("ordered", 9, 1, 1, 4), orders=(*ORDERS[:2], (9, 1, 1, 4)))
        self.expect(("ordered", 5, 0, 2, 4))

    def test_cancelled(self):
        self.expect(("cancelled", 3), orders=ORDERS[1:])
        self.expect(("cancelled", 5), orders=(ORDERS[0], ORDERS[2]))
        self.expect(("cancelled", 9), orders=ORDERS[:2])

    def test_a_day(self):
        # One bicycle is there, and so is every wheel that is ordered.
        self.assertEqual(after_event(EXAMPLE, BOOKS, ("day",)), (5, (36, 5), RECEIPTS[:2], (ORDERS[0], ORDERS[2])))

    def test_events_other_than_a_day_ask_for_no_plan(self):
        books = (4, (0, 0), (), ((3, 1, 1, 4),))
        self.assertIs(can_work(EXAMPLE, books), False)
        for event, behind in ((("counted", 0, 1), (4, (1, 0), (), books[3])), (("cancelled", 3), (4, (0, 0), (), ())),
                              (("expected", 0, 9, 1), (4, (0, 0), ((0, 9, 1),), books[3]))):
            self.assertEqual(after_event(EXAMPLE, books, event), behind)


class ADay(unittest.TestCase):
    def test_the_example_of_the_interface(self):
        books = (1, (3, 0), (), ((1, 1, 2, 6),))
        self.assertEqual(after_event(EXAMPLE, books, ("day",)), (2, (3, 0), ((0, 4, 4),), ((1, 1, 2, 6),)))
        self.assertEqual(after_day(EXAMPLE, books), (2, (3, 0), ((0, 4, 4),), ((1, 1, 2, 6),)))

    def test_day_after_day(self):
        books = (0, (3, 0), (), ((1, 1, 2, 6),))
        for behind in ((1, (3, 0), (), ((1, 1, 2, 6),)), (2, (3, 0), ((0, 4, 4),), ((1, 1, 2, 6),)),
                       (3, (3, 0), ((0, 4, 4),), ((1, 1, 2, 6),)), (4, (3, 0), ((0, 4, 4),), ((1, 1, 2, 6),)),
                       (5, (3, 0), ((1, 6, 2),), ((1, 1, 2, 6),)), (6, (3, 0), ((1, 6, 2),), ((1, 1, 2, 6),)),
                       (7, (3, 0), (), ())):
            books = after_day(EXAMPLE, books)
            self.assertEqual(books, behind)

    def test_leads_of_0_and_above(self):
        bill = read_bill("a: ; 0 days; 5 yields 3\nb: 2 a; 0 days; 1 yields 1\nc: a, 3 b; 1 days; 2 yields 1\n"
                         "d: c; 2 days; 1 yields 1")
        books = (7, (1, 0, 0, 4), (), ((1, 2, 2, 8), (2, 1, 1, 7), (3, 3, 5, 11)))
        # Of c 2 lots take 4 pieces of a and 12 of b; of b 13 lots take 26 of a; of a 10 lots yield 30.
        self.assertEqual(starts_today(bill, books), [(0, 10), (1, 13), (2, 2)])
        self.assertEqual(after_day(bill, books), (8, (1, 0, 0, 4), ((2, 8, 2),), ((1, 2, 2, 8), (3, 3, 5, 11))))

    def test_receipts_and_orders_of_today_alone_are_taken_away(self):
        bill = read_bill("a: ; 1 days; 1 yields 1\nb: ; 1 days; 1 yields 1")
        books = (5, (1, 2), ((0, 6, 30), (0, 5, 4), (1, 5, 50), (0, 5, 8), (1, 7, 60)),
                 ((2, 0, 3, 5), (4, 1, 9, 6), (6, 0, 2, 5), (8, 1, 7, 5)))
        self.assertEqual(after_day(bill, books), (6, (8, 45), ((0, 6, 30), (1, 7, 60)), ((4, 1, 9, 6),)))

    def test_the_new_receipts_stand_behind_the_others_in_the_order_of_items(self):
        bill = read_bill("a: c; 1 days; 1 yields 1\nb: c; 3 days; 2 yields 2\nc: ; 1 days; 1 yields 1\n"
                         "d: ; 2 days; 9 yields 4")
        books = (3, (0, 0, 9, 0), ((3, 9, 1), (0, 8, 1)), ((1, 3, 4, 5), (2, 1, 3, 6), (3, 0, 2, 4)))
        self.assertEqual(after_day(bill, books), (
            4, (0, 0, 3, 0), ((3, 9, 1), (0, 8, 1), (0, 4, 2), (1, 6, 4), (3, 5, 4)), books[3]))

    def test_only_what_the_latest_plan_starts_today_is_started(self):
        books = (0, (9, 0), (), ((1, 1, 1, 3), (2, 1, 1, 2)))
        self.assertEqual(after_day(EXAMPLE, books), (1, (7, 0), ((1, 2, 1),), books[3]))

    def test_no_plan(self):
        for books in ((0, (0, 0), (), ((1, 1, 2, 4),)), (2, (3, 0), (), ((1, 1, 2, 6),))):
            for call in (lambda now: after_day(EXAMPLE, now), lambda now: after_event(EXAMPLE, now, ("day",))):
                with self.assertRaises(NoPlan):
                    call(books)

    def test_an_empty_bill(self):
        self.assertEqual(after_day((), (0, (), (), ())), (1, (), (), ()))

    def test_made_up_books(self):
        gone = started = 0
        for bill, books in [*made_small(800, "day"), *made_up(200, "day")]:
            expected = day_again(bill, books)
            with self.subTest(bill=bill, books=books):
                found = told(bill, books, ("day",))
                if expected is None:
                    self.assertEqual(found, "NoPlan")
                else:
                    try:
                        check_books(bill, expected)
                    except BadBooks as error:
                        expected = error.word
                    self.assertEqual(found, expected)
                    gone += not isinstance(found, str)
                    started += bool(starts_today(bill, books))
        self.assertGreater(gone, 250)
        self.assertGreater(started, 50)

    def test_the_latest_plan_behind_it_is_the_rest_of_the_one_before(self):
        days = starts = 0
        for bill, books in [*made_small(150, "rest"), *made_up(100, "rest")]:
            for _ in range(12):
                if not can_work(bill, books) or isinstance(told(bill, books, ("day",)), str):
                    break
                plan = latest_plan(bill, books)
                rest = tuple(start for start in plan if start[1] > books[0])
                after = after_day(bill, books)
                with self.subTest(bill=bill, books=books):
                    self.assertEqual(latest_plan(bill, after), rest)
                days += 1
                starts += len(plan) - len(rest)
                books = after
        self.assertGreater(days, 1000)
        self.assertGreater(starts, 200)


class Refused(unittest.TestCase):
    def expect(self, word, *events, books=BOOKS):
        for event in events:
            with self.subTest(event=event):
                self.assertEqual(told(EXAMPLE, books, event), word)

    def test_an_index_that_no_receipt_has(self):
        for k in (-1, -2, -3, -4, 3, 4, 10 ** 30):
            self.expect("receipts", ("moved", k, 5), ("changed", k, 5), ("changed", k, 0))
        self.expect("receipts", ("moved", 0, 5), ("changed", 0, 5), ("changed", 0, 0), books=(4, (3, 0), (), ()))

    def test_days_before_today_and_behind_200(self):
        for day in (-1, 0, 3, 201, 10 ** 30):
            self.expect("receipts", ("moved", 0, day), ("expected", 0, day, 1))
            self.expect("orders", ("ordered", 3, 0, 1, day), ("ordered", 50, 0, 1, day))

    def test_quantities(self):
        for quantity in (-1, 501, 10 ** 30):
            self.expect("receipts", ("changed", 0, quantity), ("expected", 0, 9, quantity))
            self.expect("orders", ("ordered", 3, 0, quantity, 9), ("ordered", 50, 0, quantity, 9))
        self.expect("receipts", ("expected", 0, 9, 0))
        self.expect("orders", ("ordered", 3, 0, 0, 9), ("ordered", 50, 0, 0, 9))

    def test_stocks(self):
        self.expect("stock", ("counted", 0, -1), ("counted", 1, 10001), ("counted", 0, 10 ** 30), ("scrapped", 0, 31),
                    ("scrapped", 1, 6), ("scrapped", 1, 10 ** 30))

    def test_items_that_there_are_not(self):
        for item in (-1, -2, -3, 2, 3, 10 ** 30):
            self.expect("receipts", ("expected", item, 9, 1))
            self.expect("stock", ("counted", item, 1), ("scrapped", item, 1), ("scrapped", item, 0))
            self.expect("orders", ("ordered", 3, item, 1, 9), ("ordered", 50, item, 1, 9))
        for event, word in ((("counted", 0, 1), "stock"), (("scrapped", 0, 1), "stock"),
                            (("expected", 0, 9, 1), "receipts"), (("ordered", 1, 0, 1, 9), "orders")):
            self.assertEqual(told((), (0, (), (), ()), event), word)

    def test_order_numbers(self):
        for number in (-1, 0, 100, 10 ** 30):
            self.expect("orders", ("ordered", number, 0, 1, 9))

    def test_the_thirteenth(self):
        books = (4, (3, 0), ((0, 9, 1),) * 12, tuple((number, 0, 1, 9) for number in range(2, 25, 2)))
        self.expect("receipts", ("expected", 0, 9, 1), books=books)
        self.expect("orders", ("ordered", 1, 0, 1, 9), ("ordered", 99, 0, 1, 9), books=books)
        self.assertEqual(told(EXAMPLE, books, ("ordered", 24, 1, 2, 8)), (*books[:3], (*books[3][:11], (24, 1, 2, 8))))
        self.assertEqual(told(EXAMPLE, books, ("moved", 11, 8)), (*books[:2], (*books[2][:11], (0, 8, 1)), books[3]))
        less = (*books[:2], books[2][:11], books[3][:11])
        self.assertEqual(told(EXAMPLE, less, ("expected", 0, 9, 1)), (*books[:3], less[3]))
        self.assertEqual(told(EXAMPLE, less, ("ordered", 24, 0, 1, 9)), (*less[:3], books[3]))

    def test_an_order_that_there_is_not(self):
        for number in (-1, 0, 4, 99, 100):
            with self.assertRaises(NoSuchOrder) as context:
                after_event(EXAMPLE, BOOKS, ("cancelled", number))
            self.assertEqual(context.exception.number, number)

    def test_the_first_wrong_part_of_all_books(self):
        # The stock is wrong whatever the event is about, as raised stock can be.
        books = (4, (30, 10001), RECEIPTS, ORDERS)
        self.expect("stock", ("moved", 0, 9), ("expected", 0, 3, 1), ("cancelled", 3), ("counted", 0, 1), books=books)
        self.assertEqual(told(EXAMPLE, books, ("counted", 1, 0)), (4, (30, 0), RECEIPTS, ORDERS))
        self.expect("NoSuchOrder", ("cancelled", 4), books=books)


class RefusedDays(unittest.TestCase):
    def expect(self, bill, books, word):
        for call in (lambda: after_day(bill, books), lambda: after_event(bill, books, ("day",))):
            with self.assertRaises(BadBooks) as context:
                call()
            self.assertEqual(context.exception.word, word)

    def test_behind_the_day_200(self):
        self.expect(EXAMPLE, (200, (3, 0), (), ()), "today")
        self.expect(EXAMPLE, (200, (3, 0), ((0, 200, 500),), ((1, 0, 2, 200),)), "today")
        self.assertEqual(after_day(EXAMPLE, (199, (3, 0), (), ())), (200, (3, 0), (), ()))

    def test_no_plan_ahead_of_bad_books(self):
        with self.assertRaises(NoPlan):
            after_day(EXAMPLE, (200, (3, 0), (), ((1, 0, 4, 200),)))

    def test_more_than_12_receipts(self):
        orders = ((1, 0, 4, 3), (2, 1, 1, 2))
        receipts = ((0, 9, 1),) * 10
        behind = (*receipts, (0, 3, 4), (1, 2, 1))
        self.assertEqual(after_day(EXAMPLE, (0, (2, 0), receipts, orders)), (1, (0, 0), behind, orders))
        self.expect(EXAMPLE, (0, (2, 0), (*receipts, (0, 9, 1)), orders), "receipts")
        # Those of today are gone before the new ones come.
        self.assertEqual(after_day(EXAMPLE, (0, (2, 0), ((1, 0, 5), *receipts, (1, 0, 2)), (orders[0],))),
                         (1, (2, 7), (*receipts, (0, 3, 4)), (orders[0],)))

    def test_more_than_500_pieces_of_a_receipt(self):
        bill = read_bill("a: ; 1 days; 50 yields 50\nb: 20 a; 0 days; 50 yields 1")
        orders = ((1, 0, 451, 1),)
        self.assertEqual(after_day(bill, (0, (0, 0), (), orders)), (1, (0, 0), ((0, 1, 500),), orders))
        self.expect(bill, (0, (0, 0), (), ((1, 0, 500, 1), (2, 0, 1, 1))), "receipts")

    def test_more_than_10000_in_stock(self):
        self.assertEqual(after_day(EXAMPLE, (0, (9999, 0), ((0, 0, 1),), ())), (1, (10000, 0), (), ()))
        self.expect(EXAMPLE, (0, (10000, 0), ((0, 0, 1),), ()), "stock")
        self.expect(EXAMPLE, (0, (0, 9999), ((1, 0, 2),), ()), "stock")
        self.assertEqual(after_day(EXAMPLE, (0, (10000, 0), ((0, 0, 1),), ((1, 0, 1, 0),))), (1, (10000, 0), (), ()))

    def test_the_first_of_several_wrong_parts(self):
        orders = ((1, 0, 500, 1), (2, 0, 1, 1))
        bill = read_bill("a: ; 1 days; 50 yields 50\nb: ; 1 days; 1 yields 1")
        self.expect(bill, (0, (0, 10000), ((1, 0, 1),), orders), "stock")


class MadeUpEvents(unittest.TestCase):
    def test_right_books_or_an_error_and_what_it_is_about(self):
        chance = random.Random("events")
        kinds = {}
        for bill, books in made_small(150, "events"):
            for _ in range(15):
                event = made_event(chance, bill, books)
                behind = told(bill, books, event)
                if not isinstance(behind, str):
                    kinds[event[0]] = kinds.get(event[0], 0) + 1
                    with self.subTest(bill=bill, books=books, event=event):
                        self.assertIsNone(check_books(bill, behind))
                        same = [one == two for one, two in zip(books, behind)]
                        if event[0] in ("moved", "changed", "expected"):
                            self.assertEqual([same[0], same[1], same[3]], [True] * 3)
                        elif event[0] in ("counted", "scrapped"):
                            self.assertEqual([same[0], same[2], same[3]], [True] * 3)
                        elif event[0] in ("ordered", "cancelled"):
                            self.assertEqual(same[:3], [True] * 3)
                        else:
                            self.assertEqual(behind[0], books[0] + 1)
                    books = behind
        self.assertEqual(len(kinds), 8)
        self.assertGreater(min(kinds.values()), 50)


if __name__ == "__main__":
    unittest.main()
