"""[q1] to [q4]: books with an order, promised days, and the papers that a day is the first."""

import random
import unittest

from latestart.bills import read_bill
from latestart.errors import BadBooks, NoPlan
from latestart.judge import first_wrong
from latestart.latest import can_work
from latestart.papers import paper_of
from latestart.promises import first_day_paper, promise_all, promised_day, shows_first, with_order

from tests.made_up import made_small, made_up

EXAMPLE = read_bill("wheel: ; 3 days; 4 yields 4\nbicycle: 2 wheel; 2 days; 1 yields 1")
BOOKS = (0, (3, 0), (), ())

# No plan works for them, whatever is ordered besides.
HOPELESS = (0, (3, 0), (), ((1, 1, 2, 1),))
FULL = (0, (3, 0), (), tuple((number, 0, 1, 200) for number in range(1, 13)))
ALMOST_FULL = (*FULL[:3], FULL[3][:11])


def books_again(books, number, item, quantity, day):
    """The books with an order, put in its place by looking for it."""
    orders = list(books[3])
    at = 0
    while at < len(orders) and orders[at][0] < number:
        at += 1
    orders.insert(at, (number, item, quantity, day))
    return (*books[:3], tuple(orders))


def days_by_days(bill, books, number, item, quantity):
    """All days on which an order is possible, each tried on its own."""
    return [day for day in range(books[0], 201) if can_work(bill, books_again(books, number, item, quantity, day))]


def free_number(chance, books):
    return chance.choice([number for number in range(1, 100) if number not in [order[0] for order in books[3]]])


def outcome(function, *arguments):
    """What a function returns; "orders" for BadBooks with this word, and None for NoPlan."""
    try:
        return function(*arguments)
    except BadBooks as error:
        return error.word
    except NoPlan:
        return None


class WithOrder(unittest.TestCase):
    ORDERS = ((3, 0, 1, 9), (5, 1, 2, 6), (8, 0, 4, 7))

    def test_the_place_by_the_number(self):
        books = (2, (3, 0), ((0, 3, 4),), self.ORDERS)
        for number, at in ((1, 0), (2, 0), (4, 1), (6, 2), (7, 2), (9, 3), (99, 3)):
            with self.subTest(number=number):
                self.assertEqual(with_order(books, number, 1, 500, 200), (
                    2, (3, 0), ((0, 3, 4),), (*self.ORDERS[:at], (number, 1, 500, 200), *self.ORDERS[at:])))

    def test_the_first_order(self):
        self.assertEqual(with_order(BOOKS, 7, 0, 2, 0), (0, (3, 0), (), ((7, 0, 2, 0),)))

    def test_a_number_that_there_is(self):
        for number in (3, 5, 8):
            self.assertEqual(outcome(with_order, (2, (3, 0), (), self.ORDERS), number, 1, 1, 9), "orders")

    def test_twelve_orders_and_a_thirteenth(self):
        self.assertEqual(with_order(ALMOST_FULL, 50, 1, 1, 9), (*FULL[:3], (*FULL[3][:11], (50, 1, 1, 9))))
        self.assertEqual(outcome(with_order, FULL, 50, 1, 1, 9), "orders")
        self.assertEqual(outcome(with_order, FULL, 5, 1, 1, 9), "orders")

    def test_made_up_books(self):
        chance = random.Random("with order")
        for bill, books in made_up(200, "with order"):
            if bill and len(books[3]) < 12:
                order = (free_number(chance, books), chance.randrange(len(bill)), 3, books[0])
                with self.subTest(books=books, order=order):
                    self.assertEqual(with_order(books, *order), books_again(books, *order))


class PromisedDay(unittest.TestCase):
    def test_the_example_of_the_interface(self):
        self.assertEqual(promised_day(EXAMPLE, BOOKS, 1, 1, 1), 2)
        self.assertEqual(promised_day(EXAMPLE, BOOKS, 1, 1, 2), 5)

    def test_today(self):
        for today in (0, 5, 199, 200):
            self.assertEqual(promised_day(EXAMPLE, (today, (3, 2), (), ()), 1, 1, 2), today)
            self.assertEqual(promised_day(EXAMPLE, (today, (3, 2), (), ()), 1, 0, 3), today)

    def test_the_day_behind_today(self):
        bill = read_bill("a: ; 1 days; 1 yields 1")
        self.assertEqual(promised_day(bill, (7, (0,), (), ()), 1, 0, 500), 8)

    def test_the_days_of_the_leads_behind_today(self):
        for today in (0, 5, 194):
            self.assertEqual(promised_day(EXAMPLE, (today, (3, 0), (), ()), 1, 1, 1), today + 2)
            self.assertEqual(promised_day(EXAMPLE, (today, (3, 0), (), ()), 1, 1, 2), today + 5)

    def test_the_day_200(self):
        self.assertEqual(promised_day(EXAMPLE, (195, (3, 0), (), ()), 1, 1, 2), 200)
        self.assertEqual(promised_day(EXAMPLE, (198, (3, 0), (), ()), 1, 1, 1), 200)
        self.assertEqual(promised_day(EXAMPLE, (200, (3, 0), (), ()), 1, 0, 3), 200)

    def test_none_up_to_the_day_200(self):
        self.assertIsNone(outcome(promised_day, EXAMPLE, (196, (3, 0), (), ()), 1, 1, 2))
        self.assertIsNone(outcome(promised_day, EXAMPLE, (199, (3, 0), (), ()), 1, 1, 1))
        self.assertIsNone(outcome(promised_day, EXAMPLE, (200, (3, 0), (), ()), 1, 1, 1))

    def test_other_orders_come_first(self):
        # The order takes wheels of the stock, since a lot of them is not there before the day 3.
        self.assertEqual(promised_day(EXAMPLE, (0, (3, 0), (), ((9, 0, 2, 2),)), 1, 1, 1), 5)
        self.assertEqual(promised_day(EXAMPLE, (0, (3, 0), (), ((9, 0, 1, 2),)), 1, 1, 1), 2)
        self.assertEqual(promised_day(EXAMPLE, (0, (3, 0), (), ((9, 0, 2, 3),)), 1, 1, 1), 2)

    def test_receipts_are_waited_for(self):
        self.assertEqual(promised_day(EXAMPLE, (0, (3, 0), ((0, 1, 1),), ()), 1, 1, 2), 3)
        self.assertEqual(promised_day(EXAMPLE, (0, (3, 0), ((0, 4, 1),), ()), 1, 1, 2), 5)
        self.assertEqual(promised_day(EXAMPLE, (0, (3, 0), ((1, 4, 2),), ()), 1, 1, 2), 4)

    def test_no_plan(self):
        self.assertIsNone(outcome(promised_day, EXAMPLE, HOPELESS, 2, 0, 1))

    def test_bad_books(self):
        books = (0, (3, 0), (), ((4, 1, 1, 9),))
        self.assertEqual(outcome(promised_day, EXAMPLE, books, 4, 1, 1), "orders")
        self.assertEqual(outcome(promised_day, EXAMPLE, books, 5, 1, 1), 2)
        self.assertEqual(outcome(promised_day, EXAMPLE, FULL, 50, 1, 1), "orders")

    def test_bad_books_ahead_of_no_plan(self):
        self.assertEqual(outcome(promised_day, EXAMPLE, HOPELESS, 1, 0, 1), "orders")
        full = (0, (0, 0), (), tuple((number, 1, 1, 0) for number in range(1, 13)))
        self.assertEqual(outcome(promised_day, EXAMPLE, full, 50, 0, 1), "orders")

    def test_made_up_books(self):
        chance = random.Random("promised")
        found = {"today": 0, "later": 0, "none": 0}
        for bill, books in [*made_small(120, "promised"), *made_up(60, "promised")]:
            if not bill or len(books[3]) == 12:
                continue
            order = (free_number(chance, books), chance.randrange(len(bill)), chance.choice((1, 2, 9, 40)))
            days = days_by_days(bill, books, *order)
            with self.subTest(bill=bill, books=books, order=order):
                day = outcome(promised_day, bill, books, *order)
                self.assertEqual(day, days[0] if days else None)
                # What is possible on a day is possible on each later one.
                self.assertEqual(days, list(range(days[0], 201)) if days else [])
            found["none" if day is None else "today" if day == books[0] else "later"] += 1
        self.assertGreater(min(found.values()), 20)


class PromiseAll(unittest.TestCase):
    def test_one_after_the_other(self):
        asked = [(5, 1, 1), (2, 1, 1), (9, 0, 1)]
        self.assertEqual(promise_all(EXAMPLE, BOOKS, asked), ([2, 5, 0], (0, (3, 0), (), (
            (2, 1, 1, 5), (5, 1, 1, 2), (9, 0, 1, 0)))))

    def test_another_order_gives_other_days(self):
        asked = [(9, 0, 2), (5, 1, 1), (2, 1, 1)]
        self.assertEqual(promise_all(EXAMPLE, BOOKS, asked), ([0, 5, 5], (0, (3, 0), (), (
            (2, 1, 1, 5), (5, 1, 1, 5), (9, 0, 2, 0)))))

    def test_nothing_is_asked(self):
        for books in (BOOKS, HOPELESS, FULL):
            self.assertEqual(promise_all(EXAMPLE, books, []), ([], books))

    def test_one_without_a_day_is_left_out(self):
        # 9 wheels can be there on the day 199, 10 bicycles not before the day 201. So the number 1 is free still.
        books = (196, (3, 0), (), ())
        self.assertEqual(promise_all(EXAMPLE, books, [(1, 1, 10), (2, 0, 9), (1, 1, 1), (4, 1, 2)]),
                         ([None, 199, 198, None], (196, (3, 0), (), ((1, 1, 1, 198), (2, 0, 9, 199)))))
        self.assertEqual(promise_all(EXAMPLE, books, [(1, 1, 10), (3, 1, 2)]), ([None, None], books))
        self.assertEqual(promise_all(EXAMPLE, books, [(1, 1, 10), (1, 1, 1), (2, 0, 9)]),
                         ([None, 198, 199], (196, (3, 0), (), ((1, 1, 1, 198), (2, 0, 9, 199)))))

    def test_a_number_that_there_is(self):
        books = (0, (3, 0), (), ((4, 1, 1, 9),))
        self.assertEqual(promise_all(EXAMPLE, books, [(4, 0, 1), (5, 0, 1), (5, 0, 1), (6, 0, 1)]),
                         ([None, 0, None, 0], (0, (3, 0), (), ((4, 1, 1, 9), (5, 0, 1, 0), (6, 0, 1, 0)))))

    def test_the_thirteenth_order(self):
        books = (0, (50, 0), (), ALMOST_FULL[3])
        self.assertEqual(promise_all(EXAMPLE, books, [(50, 0, 1), (51, 0, 1), (52, 1, 1)]),
                         ([0, None, None], (0, (50, 0), (), (*ALMOST_FULL[3], (50, 0, 1, 0)))))

    def test_no_plan_works(self):
        self.assertEqual(promise_all(EXAMPLE, HOPELESS, [(5, 0, 1), (1, 0, 1), (6, 1, 1)]), ([None] * 3, HOPELESS))

    def test_made_up_books(self):
        chance = random.Random("all")
        promised = refused = 0
        for bill, books in made_small(60, "all"):
            asked = [(chance.randint(1, 30), chance.randrange(len(bill)), chance.choice((1, 2, 9)))
                     for _ in range(chance.randint(0, 8))]
            days, after = promise_all(bill, books, asked)
            now = books
            for order, day in zip(asked, days, strict=True):
                taken = order[0] in [entry[0] for entry in now[3]] or len(now[3]) == 12
                possible = [] if taken else days_by_days(bill, now, *order)
                with self.subTest(bill=bill, books=now, order=order):
                    self.assertEqual(day, possible[0] if possible else None)
                if day is None:
                    refused += 1
                else:
                    promised += 1
                    now = books_again(now, *order, day)
            with self.subTest(bill=bill, books=books, asked=asked):
                self.assertEqual(after, now)
                self.assertEqual(can_work(bill, after), can_work(bill, books))
        self.assertGreater(min(promised, refused), 30)


class FirstDayPaper(unittest.TestCase):
    def test_none_for_today(self):
        self.assertIsNone(first_day_paper(EXAMPLE, BOOKS, 1, 0, 3))
        self.assertIsNone(first_day_paper(EXAMPLE, (200, (0, 4), (), ()), 1, 1, 4))

    def test_the_paper_of_the_day_before(self):
        self.assertEqual(first_day_paper(EXAMPLE, BOOKS, 1, 1, 1), [(1, -1, 1)])
        self.assertEqual(first_day_paper(EXAMPLE, BOOKS, 1, 1, 2), [(1, 2, 2), (0, -1, 1)])

    def test_the_day_behind_today(self):
        bill = read_bill("a: ; 1 days; 1 yields 1")
        self.assertEqual(first_day_paper(bill, (7, (0,), (), ()), 1, 0, 500), [(0, 6, 500)])

    def test_other_orders_are_in_it(self):
        books = (0, (3, 0), (), ((9, 0, 2, 2),))
        self.assertEqual(first_day_paper(EXAMPLE, books, 1, 1, 1), [(1, 2, 1), (0, -1, 1)])

    def test_errors(self):
        self.assertEqual(outcome(first_day_paper, EXAMPLE, HOPELESS, 1, 0, 1), "orders")
        self.assertEqual(outcome(first_day_paper, EXAMPLE, FULL, 50, 1, 1), "orders")
        for books in (HOPELESS, (196, (3, 0), (), ())):
            with self.assertRaises(NoPlan):
                first_day_paper(EXAMPLE, books, 2, 1, 2)


class ShowsFirst(unittest.TestCase):
    def test_right_papers(self):
        self.assertIs(shows_first(EXAMPLE, BOOKS, 1, 1, 2, 5, [(1, 2, 2), (0, -1, 1)]), True)
        self.assertIs(shows_first(EXAMPLE, BOOKS, 1, 1, 2, 5, [(1, 2, 2), (1, 3, 1), (0, -1, 1)]), True)
        self.assertIs(shows_first(EXAMPLE, BOOKS, 1, 1, 1, 2, [(1, -1, 1)]), True)
        # It is shown for a day ahead of the first one, too, that no earlier one is possible.
        self.assertIs(shows_first(EXAMPLE, BOOKS, 1, 1, 2, 3, [(1, 0, 2), (0, -3, 1)]), True)

    def test_the_paper_of_another_day(self):
        self.assertIs(shows_first(EXAMPLE, BOOKS, 1, 1, 2, 6, [(1, 2, 2), (0, -1, 1)]), False)
        self.assertIs(shows_first(EXAMPLE, BOOKS, 1, 1, 2, 6, [(1, 3, 2), (0, 0, 1)]), False)

    def test_wrong_papers(self):
        for paper in ([(0, -1, 1)], [(0, -1, 1), (1, 2, 2)], [(1, 2, 2), (0, -1, 2)], [(1, 2, 3), (0, -1, 1)],
                      [(1, 2, 2), (0, -1, 1), (0, -2, 1)]):
            self.assertIs(shows_first(EXAMPLE, BOOKS, 1, 1, 2, 5, paper), False)

    def test_papers_without_a_fact_before_today(self):
        for paper in ([], [(1, 2, 2)], [(1, 2, 2), (0, 0, 1)]):
            self.assertIs(shows_first(EXAMPLE, BOOKS, 1, 1, 2, 5, paper), False)
        self.assertIs(shows_first(EXAMPLE, (1, *BOOKS[1:]), 1, 1, 2, 6, [(1, 3, 2), (0, 0, 1)]), True)

    def test_other_orders_are_in_the_books(self):
        books = (0, (3, 0), (), ((9, 0, 2, 2),))
        self.assertIs(shows_first(EXAMPLE, books, 1, 1, 1, 5, [(1, 2, 1), (0, -1, 1)]), True)
        self.assertIs(shows_first(EXAMPLE, BOOKS, 1, 1, 1, 5, [(1, 2, 1), (0, -1, 1)]), False)

    def test_made_up_books(self):
        chance = random.Random("shows first")
        shown = 0
        for bill, books in made_small(200, "shows first"):
            order = (free_number(chance, books), chance.randrange(len(bill)), chance.choice((1, 2, 9, 40)))
            day = outcome(promised_day, bill, books, *order)
            if day is None:
                continue
            paper = first_day_paper(bill, books, *order)
            with self.subTest(bill=bill, books=books, order=order):
                if day == books[0]:
                    self.assertIsNone(paper)
                else:
                    before = books_again(books, *order, day - 1)
                    self.assertEqual(paper, paper_of(bill, before))
                    self.assertIsNone(first_wrong(bill, before, paper))
                    self.assertIs(shows_first(bill, books, *order, day, paper), True)
                    self.assertIs(shows_first(bill, books, *order, day + 1, paper), False)
                    shown += 1
        self.assertGreater(shown, 50)


if __name__ == "__main__":
    unittest.main()
