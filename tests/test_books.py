"""[k5] with [c2] and [c3]: which books are right; what books supply and order up to a day."""

import copy
import itertools
import unittest

from latestart.books import check_books, ordered, supplied
from latestart.errors import BadBooks

from tests.made_up import made_up

BILL = (("a", ((1, 2),), 1, 1, 1), ("b", (), 1, 1, 1), ("c", (), 1, 1, 1))
TODAY = 1
STOCK = (0, 1, 10000)
RECEIPTS = ((1, 1, 1), (0, 200, 500))
ORDERS = ((1, 1, 1, 1), (99, 2, 500, 200))
RIGHT = (TODAY, STOCK, RECEIPTS, ORDERS)
WORDS = ("today", "stock", "receipts", "orders")

# Nothing of this can stand where a number has to stand: not in the place of 0, nor of 1.
NO_NUMBERS = (True, False, None, "", "1", "one", b"1", 1.0, 0.0, 1j, (), (1,), [], [1], {}, {1: 1}, {1}, int, print)

# Nothing of this can stand where a tuple has to stand.
NO_TUPLES = (True, False, None, 0, 1, 2, "", "abc", b"abc", 1.5, [], [1, 1, 1], {}, {1: 1, 2: 2, 3: 3}, {1, 2, 3},
             range(3), tuple)


def wrong_part(bill, books):
    """The word of the first wrong part of books; None if they are right."""
    before = copy.deepcopy((bill, books))
    word = None
    try:
        found = check_books(bill, books)
    except BadBooks as error:
        word = error.word
    else:
        assert found is None, found
    assert before == (bill, books), "changed"
    return word


def changed(row, at, value):
    """A tuple with another value at a place."""
    return (*row[:at], value, *row[at + 1:])


def books_with(word, value):
    """The right books with another part."""
    return changed(RIGHT, WORDS.index(word), value)


class Parts(unittest.TestCase):
    def right(self, word, value, bill=BILL):
        with self.subTest(right=value):
            self.assertIsNone(wrong_part(bill, books_with(word, value)))

    def wrong(self, word, value, bill=BILL):
        with self.subTest(wrong=value):
            self.assertEqual(wrong_part(bill, books_with(word, value)), word)


class Today(Parts):
    def test_bounds(self):
        late = ((), ())
        for today in (0, 1, 2, 100, 199, 200):
            self.assertIsNone(wrong_part(BILL, (today, STOCK, *late)))
        for today in (-1, -200, 201, 202, 10 ** 30, -10 ** 30):
            self.assertEqual(wrong_part(BILL, (today, STOCK, *late)), "today")

    def test_no_integers(self):
        for value in NO_NUMBERS:
            self.wrong("today", value)


class Stock(Parts):
    def test_bounds(self):
        for at in range(3):
            for pieces in (0, 1, 9999, 10000):
                self.right("stock", changed(STOCK, at, pieces))
            for pieces in (-1, 10001, 10 ** 30):
                self.wrong("stock", changed(STOCK, at, pieces))

    def test_no_integers(self):
        for at in range(3):
            for value in NO_NUMBERS:
                self.wrong("stock", changed(STOCK, at, value))

    def test_no_tuples(self):
        for value in (*NO_TUPLES, list(STOCK)):
            self.wrong("stock", value)

    def test_a_number_for_each_item(self):
        for stock in ((), (0,), (0, 0), (0, 0, 0, 0), (0,) * 9):
            self.wrong("stock", stock)
        books = (0, (), (), ())
        self.assertIsNone(wrong_part((), books))
        self.assertEqual(wrong_part((), changed(books, 1, (0,))), "stock")
        self.assertEqual(wrong_part(BILL[1:2], changed(books, 1, ())), "stock")


class Receipts(Parts):
    def test_none(self):
        self.right("receipts", ())

    def test_items(self):
        for item in (0, 1, 2):
            self.right("receipts", ((item, 5, 5),))
        for item in (-1, -3, 3, 4, 8, 10 ** 30):
            self.wrong("receipts", ((item, 5, 5),))

    def test_items_of_other_bills(self):
        row = BILL[1]
        for size in range(9):
            for item in range(-1, 10):
                books = (0, (0,) * size, ((item, 5, 5),), ())
                expected = None if 0 <= item < size else "receipts"
                with self.subTest(size=size, item=item):
                    self.assertEqual(wrong_part((row,) * size, books), expected)

    def test_days(self):
        for day in (1, 2, 199, 200):
            self.right("receipts", ((1, day, 5),))
        for day in (0, -1, 201, 10 ** 30):
            self.wrong("receipts", ((1, day, 5),))

    def test_days_from_today_on(self):
        for today in (0, 1, 50, 199, 200):
            for day in (-1, 0, 1, 2, 49, 50, 51, 198, 199, 200, 201):
                expected = None if today <= day <= 200 else "receipts"
                with self.subTest(today=today, day=day):
                    self.assertEqual(wrong_part(BILL, (today, STOCK, ((1, day, 5),), ())), expected)

    def test_quantities(self):
        for quantity in (1, 2, 499, 500):
            self.right("receipts", ((1, 5, quantity),))
        for quantity in (0, -1, 501, 10 ** 30):
            self.wrong("receipts", ((1, 5, quantity),))

    def test_no_integers(self):
        for entry in range(2):
            for at in range(3):
                for value in NO_NUMBERS:
                    self.wrong("receipts", changed(RECEIPTS, entry, changed(RECEIPTS[entry], at, value)))

    def test_no_tuples(self):
        for value in (*NO_TUPLES, list(RECEIPTS)):
            self.wrong("receipts", value)
        for value in (*NO_TUPLES, list(RECEIPTS[0])):
            self.wrong("receipts", (value,))
            self.wrong("receipts", (*RECEIPTS, value))

    def test_tuples_of_another_length(self):
        for entry in ((), (1,), (1, 5), (1, 5, 5, 5), (1, 5, 5, 5, 5)):
            self.wrong("receipts", (entry,))
            self.wrong("receipts", (*RECEIPTS, entry))

    def test_at_most_12(self):
        for many in (1, 11, 12):
            self.right("receipts", ((1, 5, 5),) * many)
        for many in (13, 14, 30):
            self.wrong("receipts", ((1, 5, 5),) * many)

    def test_in_any_order_and_several_alike(self):
        self.right("receipts", ((2, 9, 5), (1, 9, 4), (1, 3, 9), (2, 9, 5)))

    def test_each_of_12_is_checked(self):
        for at in range(12):
            self.wrong("receipts", changed(((1, 5, 5),) * 12, at, (1, 5, 0)))


class Orders(Parts):
    def test_none(self):
        self.right("orders", ())

    def test_numbers(self):
        for number in (1, 2, 98, 99):
            self.right("orders", ((number, 1, 5, 5),))
        for number in (0, -1, 100, 10 ** 30):
            self.wrong("orders", ((number, 1, 5, 5),))

    def test_items(self):
        for item in (0, 1, 2):
            self.right("orders", ((7, item, 5, 5),))
        for item in (-1, -3, 3, 4, 8, 10 ** 30):
            self.wrong("orders", ((7, item, 5, 5),))

    def test_a_bill_without_items(self):
        self.assertEqual(wrong_part((), (0, (), (), ((7, 0, 5, 5),))), "orders")

    def test_quantities(self):
        for quantity in (1, 2, 499, 500):
            self.right("orders", ((7, 1, quantity, 5),))
        for quantity in (0, -1, 501, 10 ** 30):
            self.wrong("orders", ((7, 1, quantity, 5),))

    def test_days(self):
        for day in (1, 2, 199, 200):
            self.right("orders", ((7, 1, 5, day),))
        for day in (0, -1, 201, 10 ** 30):
            self.wrong("orders", ((7, 1, 5, day),))

    def test_days_from_today_on(self):
        for today in (0, 1, 50, 199, 200):
            for day in (-1, 0, 1, 2, 49, 50, 51, 198, 199, 200, 201):
                expected = None if today <= day <= 200 else "orders"
                with self.subTest(today=today, day=day):
                    self.assertEqual(wrong_part(BILL, (today, STOCK, (), ((7, 1, 5, day),))), expected)

    def test_no_integers(self):
        for entry in range(2):
            for at in range(4):
                for value in NO_NUMBERS:
                    self.wrong("orders", changed(ORDERS, entry, changed(ORDERS[entry], at, value)))

    def test_no_tuples(self):
        for value in (*NO_TUPLES, [1, 1, 1, 1], list(ORDERS)):
            self.wrong("orders", value)
        for value in (*NO_TUPLES, [1, 1, 1, 1]):
            self.wrong("orders", (value,))
            self.wrong("orders", (ORDERS[0], value))

    def test_tuples_of_another_length(self):
        for entry in ((), (7,), (7, 1), (7, 1, 5), (7, 1, 5, 5, 5), (7, 1, 5, 5, 5, 5)):
            self.wrong("orders", (entry,))
            self.wrong("orders", (ORDERS[0], entry))

    def test_numbers_rise(self):
        for numbers in ((1, 2), (98, 99), (1, 5, 6, 99)):
            self.right("orders", tuple((number, 1, 5, 5) for number in numbers))
        for numbers in ((1, 1), (99, 99), (2, 1), (99, 1), (1, 5, 5), (1, 6, 5), (5, 5, 6), (5, 4, 6), (1, 3, 2, 4)):
            self.wrong("orders", tuple((number, 1, 5, 5) for number in numbers))

    def test_days_need_not_rise(self):
        self.right("orders", ((3, 2, 5, 9), (4, 1, 5, 3), (5, 2, 5, 9)))

    def test_at_most_12(self):
        for many in (1, 11, 12):
            self.right("orders", tuple((number, 1, 5, 5) for number in range(1, many + 1)))
        for many in (13, 14, 99):
            self.wrong("orders", tuple((number, 1, 5, 5) for number in range(1, many + 1)))

    def test_each_of_12_is_checked(self):
        right = tuple((number, 1, 5, 5) for number in range(1, 13))
        for at in range(12):
            self.wrong("orders", changed(right, at, (at + 1, 1, 0, 5)))


class FirstWrongPart(unittest.TestCase):
    def test_of_several_the_first(self):
        wrong = (-1, (0, 0), ((3, 5, 5),), ((0, 1, 5, 5),))
        for these in itertools.product((False, True), repeat=4):
            books = tuple(wrong[at] if bad else RIGHT[at] for at, bad in enumerate(these))
            expected = WORDS[these.index(True)] if True in these else None
            with self.subTest(these=these):
                self.assertEqual(wrong_part(BILL, books), expected)

    def test_a_wrong_today_is_told_whatever_the_rest_is(self):
        for value in (*NO_NUMBERS, -1, 201):
            for rest in NO_TUPLES:
                with self.subTest(value=value, rest=rest):
                    self.assertEqual(wrong_part(BILL, (value, rest, rest, rest)), "today")

    def test_values_within_values(self):
        for value in ([[1, [2]]], ([1], [2], [3]), ((1, (2,)),), (((1, 1, 1),),), ((None,),), {(1, 1, 1): 1}):
            for at, word in enumerate(WORDS):
                with self.subTest(word=word, value=value):
                    self.assertEqual(wrong_part(BILL, changed(RIGHT, at, value)), word)


class MadeUp(unittest.TestCase):
    def test_right_books(self):
        for bill, books in made_up(300, "right books"):
            with self.subTest(bill=bill, books=books):
                self.assertIsNone(wrong_part(bill, books))

    def test_the_bounds_at_once(self):
        receipts = ((2, 200, 500),) * 12
        orders = tuple((number, 2, 500, 200) for number in range(88, 100))
        self.assertIsNone(wrong_part(BILL, (200, (10000,) * 3, receipts, orders)))
        self.assertIsNone(wrong_part(BILL, (0, (0,) * 3, ((0, 0, 1),) * 12, ((1, 0, 1, 0),))))


class Supplied(unittest.TestCase):
    BOOKS = (2, (7, 0, 10000), ((0, 5, 10), (1, 2, 3), (0, 3, 100), (0, 5, 1000), (2, 4, 1)), ((1, 0, 6, 3),))

    def test_before_on_and_behind_the_days_of_the_receipts(self):
        found = [supplied(self.BOOKS, 0, day) for day in range(7)]
        self.assertEqual(found, [7, 7, 7, 107, 107, 1117, 1117])
        self.assertEqual([supplied(self.BOOKS, 1, day) for day in range(4)], [0, 0, 3, 3])
        self.assertEqual([supplied(self.BOOKS, 2, day) for day in (3, 4, 200)], [10000, 10001, 10001])

    def test_before_today_and_below_0_it_is_the_stock(self):
        self.assertEqual([supplied(self.BOOKS, item, day) for item in range(3) for day in (-90, -1, 0, 1)],
                         [7] * 4 + [0] * 4 + [10000] * 4)

    def test_without_receipts(self):
        self.assertEqual([supplied((0, (4, 5), (), ((1, 0, 2, 0),)), item, 200) for item in (0, 1)], [4, 5])


class Ordered(unittest.TestCase):
    BOOKS = (2, (7, 9), ((0, 3, 100),), ((1, 0, 6, 5), (2, 1, 50, 2), (3, 0, 500, 3), (40, 0, 20, 5)))

    def test_before_on_and_behind_the_days_of_the_orders(self):
        self.assertEqual([ordered(self.BOOKS, 0, day) for day in range(7)], [0, 0, 0, 500, 500, 526, 526])
        self.assertEqual([ordered(self.BOOKS, 1, day) for day in (-5, 1, 2, 3, 200)], [0, 0, 50, 50, 50])

    def test_without_orders(self):
        self.assertEqual(ordered((0, (4,), ((0, 1, 1),), ()), 0, 200), 0)

    def test_made_up_books(self):
        for bill, books in made_up(60, "supplied"):
            for item in range(len(bill)):
                here = books[1][item]
                gone = 0
                for day in range(201):
                    here += sum(entry[2] for entry in books[2] if entry[:2] == (item, day))
                    gone += sum(entry[2] for entry in books[3] if (entry[1], entry[3]) == (item, day))
                    if (supplied(books, item, day), ordered(books, item, day)) != (here, gone):
                        self.fail((books, item, day))


if __name__ == "__main__":
    unittest.main()
