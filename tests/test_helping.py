"""[h1] to [h3]: help that is enough, the help from above, and the least help."""

import itertools
import random
import unittest

from latestart.bills import read_bill
from latestart.errors import TooMany
from latestart.helping import help_from_above, helped, is_enough, least_help
from latestart.latest import can_work

from tests.by_days import lots_by_days
from tests.made_up import made_small, made_up

EXAMPLE = read_bill("wheel: ; 3 days; 4 yields 4\nbicycle: 2 wheel; 2 days; 1 yields 1")
BOOKS = (0, (0, 0), (), ((1, 1, 2, 4),))


def all_help(items, pieces):
    """All help with so many pieces in all, in the order of tuples."""
    if items == 0:
        return [()] if pieces == 0 else []
    return [(first, *rest) for first in range(pieces + 1) for rest in all_help(items - 1, pieces - first)]


def least_of_all(bill, books, most):
    """The first help that is enough in the list of all help with few pieces; None if there is none."""
    for pieces in range(most + 1):
        for extra in all_help(len(bill), pieces):
            if is_enough(bill, books, extra):
                return extra
    return None


def least_or_none(bill, books, most):
    try:
        return least_help(bill, books, most)
    except TooMany as error:
        assert error.limit == most, error.limit
        return None


def above_by_days(bill, books):
    """[h2], taken word by word: item by item, piece by piece."""
    found = [0] * len(bill)
    for item in sorted(range(len(bill)), key=lambda other: level(bill, other)):
        while lots_by_days(bill, helped(books, tuple(found)))[item][books[0] - 1] > 0:
            found[item] += 1
    return tuple(found)


def level(bill, item):
    """How many items stand above an item, one above the other."""
    users = [user for user in range(len(bill)) if item in [part for part, _ in bill[user][1]]]
    return max([level(bill, user) + 1 for user in users], default=0)


def piece_less(extra):
    """Yields help with one piece less of an item that it has, the others unchanged."""
    for item, pieces in enumerate(extra):
        if pieces:
            yield (*extra[:item], pieces - 1, *extra[item + 1:])


class Helped(unittest.TestCase):
    def test_the_stock_is_raised(self):
        books = (3, (5, 0), ((0, 4, 1),), ((1, 1, 2, 4),))
        self.assertEqual(helped(books, (0, 0)), books)
        self.assertEqual(helped(books, (2, 7)), (3, (7, 7), ((0, 4, 1),), ((1, 1, 2, 4),)))

    def test_beyond_10000(self):
        self.assertEqual(helped((0, (10000, 9), (), ()), (1, 20000)), (0, (10001, 20009), (), ()))

    def test_no_items(self):
        self.assertEqual(helped((0, (), (), ()), ()), (0, (), (), ()))


class IsEnough(unittest.TestCase):
    def test_enough_and_just_not(self):
        for extra, expected in (((4, 0), True), ((3, 0), False), ((0, 2), True), ((0, 1), False), ((2, 1), True),
                                ((1, 1), False), ((0, 0), False), ((5, 1), True), ((4, 9), True)):
            with self.subTest(extra=extra):
                self.assertIs(is_enough(EXAMPLE, BOOKS, extra), expected)

    def test_no_help_where_a_plan_works(self):
        self.assertIs(is_enough(EXAMPLE, (0, (3, 0), (), ((1, 1, 2, 6),)), (0, 0)), True)
        self.assertIs(is_enough((), (0, (), (), ()), ()), True)

    def test_raised_stock_beyond_10000(self):
        bill = read_bill("a: ; 9 days; 1 yields 1\nb: 20 a; 1 days; 50 yields 1")
        books = (0, (10000, 0), (), ((1, 1, 11, 3),))
        self.assertIs(is_enough(bill, books, (999, 0)), False)
        self.assertIs(is_enough(bill, books, (1000, 0)), True)
        self.assertIs(is_enough(bill, books, (0, 1)), True)

    def test_more_help_is_enough_too(self):
        chance = random.Random("more")
        for bill, books in made_small(200, "more"):
            extra = tuple(chance.randint(0, 4) for _ in bill)
            more = tuple(pieces + chance.choice((0, 0, 1, 5)) for pieces in extra)
            with self.subTest(bill=bill, books=books, extra=extra, more=more):
                self.assertIs(is_enough(bill, books, extra), can_work(bill, helped(books, extra)))
                if is_enough(bill, books, extra):
                    self.assertIs(is_enough(bill, books, more), True)


class FromAbove(unittest.TestCase):
    def test_the_example_of_the_interface(self):
        self.assertEqual(help_from_above(EXAMPLE, BOOKS), (4, 0))

    def test_nothing_where_a_plan_works(self):
        for bill, books in ((EXAMPLE, (0, (3, 0), (), ((1, 1, 2, 6),))), (EXAMPLE, (0, (0, 0), (), ())),
                            ((), (0, (), (), ()))):
            self.assertEqual(help_from_above(bill, books), (0,) * len(bill))

    def test_one_item(self):
        bill = read_bill("a: ; 2 days; 5 yields 3")
        for today, orders, expected in ((0, ((1, 0, 7, 1),), 7), (0, ((1, 0, 7, 2),), 0), (1, ((1, 0, 7, 2),), 7),
                                        (0, ((1, 0, 7, 1), (2, 0, 2, 0), (3, 0, 50, 2)), 9), (9, ((1, 0, 4, 9),), 4)):
            with self.subTest(today=today, orders=orders):
                self.assertEqual(help_from_above(bill, (today, (0,), (), orders)), (expected,))
                self.assertEqual(help_from_above(bill, (today, (2,), (), orders)), (max(0, expected - 2),))

    def test_receipts_that_come_in_time_and_too_late(self):
        bill = read_bill("a: ; 5 days; 1 yields 1")
        orders = ((1, 0, 4, 2), (2, 0, 3, 4))
        self.assertEqual(help_from_above(bill, (0, (0,), ((0, 2, 3),), orders)), (4,))
        self.assertEqual(help_from_above(bill, (0, (0,), ((0, 2, 9),), orders)), (0,))
        self.assertEqual(help_from_above(bill, (0, (0,), ((0, 3, 9),), orders)), (4,))
        self.assertEqual(help_from_above(bill, (0, (0,), ((0, 5, 9),), orders)), (7,))

    def test_what_is_given_above_is_not_needed_below(self):
        bill = read_bill("a: 2 b; 1 days; 1 yields 1\nb: 3 c; 1 days; 1 yields 1\nc: ; 1 days; 1 yields 1")
        orders = ((1, 0, 1, 0), (2, 0, 1, 1), (3, 0, 1, 2), (4, 0, 1, 3))
        self.assertEqual(help_from_above(bill, (0, (0, 0, 0), (), orders)), (1, 2, 6))
        self.assertEqual(help_from_above(bill, (0, (0, 1, 1), (), orders)), (1, 1, 5))

    def test_a_lead_of_0(self):
        bill = read_bill("a: b; 0 days; 2 yields 1\nb: ; 1 days; 1 yields 1")
        self.assertEqual(help_from_above(bill, (3, (0, 0), (), ((1, 0, 4, 3),))), (0, 8))

    def test_it_is_enough_and_with_a_piece_less_it_is_not(self):
        several = 0
        for bill, books in [*made_small(900, "above"), *made_up(200, "above")]:
            extra = help_from_above(bill, books)
            several += sum(pieces > 0 for pieces in extra) > 1
            with self.subTest(bill=bill, books=books):
                self.assertIs(is_enough(bill, books, extra), True)
                self.assertEqual(sum(extra) == 0, can_work(bill, books))
                for less in piece_less(extra):
                    self.assertIs(is_enough(bill, books, less), False)
        self.assertGreater(several, 30)

    def test_item_by_item_and_piece_by_piece(self):
        for bill, books in made_small(60, "pieces", 4):
            with self.subTest(bill=bill, books=books):
                self.assertEqual(help_from_above(bill, books), above_by_days(bill, books))


class LeastHelp(unittest.TestCase):
    def test_the_example_of_the_interface(self):
        for most in (2, 3, 5, 1000):
            self.assertEqual(least_help(EXAMPLE, BOOKS, most), (0, 2))

    def test_too_many(self):
        for most in (0, 1):
            with self.assertRaises(TooMany) as context:
                least_help(EXAMPLE, BOOKS, most)
            self.assertEqual(context.exception.limit, most)

    def test_0_pieces(self):
        for most in (0, 1, 100):
            self.assertEqual(least_help(EXAMPLE, (0, (3, 0), (), ((1, 1, 2, 6),)), most), (0, 0))
            self.assertEqual(least_help((), (0, (), (), ()), most), ())

    def test_the_first_of_several(self):
        # A piece of any of the three stands for one of the others; the last of them in the tuple gets all.
        for text, item in (("a: b; 1 days; 1 yields 1\nb: c; 1 days; 1 yields 1\nc: ; 1 days; 1 yields 1", 0),
                           ("a: ; 1 days; 1 yields 1\nb: a; 1 days; 1 yields 1\nc: b; 1 days; 1 yields 1", 2),
                           ("a: ; 1 days; 1 yields 1\nb: c; 1 days; 1 yields 1\nc: a; 1 days; 1 yields 1", 1)):
            with self.subTest(text=text):
                self.assertEqual(least_help(read_bill(text), (0, (0, 0, 0), (), ((1, item, 4, 2),)), 9), (0, 0, 4))

    def test_some_here_and_some_there(self):
        # The first product is worth a part each, the second one two of them.
        bill = read_bill("a: c; 1 days; 1 yields 1\nb: 2 c; 1 days; 1 yields 1\nc: ; 9 days; 1 yields 1")
        books = (0, (0, 0, 0), (), ((1, 0, 3, 2), (2, 1, 2, 3)))
        self.assertEqual(least_help(bill, books, 9), (0, 2, 3))
        self.assertEqual(help_from_above(bill, books), (0, 0, 7))

    def test_a_part_of_whole_lots(self):
        # One piece more makes one lot less, and this 10 parts less.
        bill = read_bill("part: ; 9 days; 1 yields 1\nbox: 2 part; 1 days; 5 yields 4")
        for ordered, expected in ((4, (0, 4)), (5, (0, 5)), (9, (0, 9)), (1, (0, 1))):
            self.assertEqual(least_help(bill, (0, (0, 0), (), ((1, 1, ordered, 3),)), 50), expected)
        self.assertEqual(least_help(bill, (0, (8, 0), (), ((1, 1, 5, 3),)), 50), (2, 1))
        self.assertEqual(least_help(bill, (0, (10, 0), (), ((1, 1, 5, 3),)), 50), (0, 1))
        self.assertEqual(least_help(bill, (0, (9, 0), (), ((1, 1, 4, 3),)), 50), (1, 0))

    def test_held_against_a_list_of_all_help(self):
        chance = random.Random("least")
        found = {}
        unlike = 0
        for bill, books in made_small(1600, "least", 4):
            most = chance.choice((0, 1, 2, 4, 7))
            expected = least_of_all(bill, books, most)
            pieces = None if expected is None else sum(expected)
            found[pieces] = found.get(pieces, 0) + 1
            unlike += expected is not None and expected != help_from_above(bill, books)
            with self.subTest(bill=bill, books=books, most=most):
                self.assertEqual(least_or_none(bill, books, most), expected)
        self.assertGreater(min(found[pieces] for pieces in (None, 0, 1, 2, 3, 4)), 8)
        self.assertGreater(unlike, 20)

    def test_books_for_which_several_are_as_few(self):
        """Chains and stars in every order of their items, in which all pieces are worth the same."""
        ties = 0
        for order in itertools.permutations(range(4)):
            for uses in (((0, 1), (1, 2), (2, 3)), ((0, 3), (1, 3), (2, 3)), ((0, 2), (1, 2), (2, 3), (1, 3))):
                rows = {place: (name, tuple((order[part], 1) for user, part in uses if user == at), 1 + at, 1, 1)
                        for at, (place, name) in enumerate(zip(order, "abcd"))}
                bill = tuple(rows[place] for place in range(4))
                for orders in (((1, order[0], 2, 1),), ((1, order[0], 2, 3), (2, order[1], 1, 2), (3, order[2], 1, 4))):
                    books = (0, (0,) * 4, (), orders)
                    expected = least_of_all(bill, books, 6)
                    ties += sum(is_enough(bill, books, extra) for extra in all_help(4, sum(expected))) > 1
                    with self.subTest(bill=bill, books=books):
                        self.assertEqual(least_help(bill, books, 6), expected)
        self.assertGreater(ties, 60)

    def test_eight_items(self):
        products = "\n".join(f"{name}: part; 1 days; 1 yields 1" for name in "abcdefg")
        part = "part: ; 10 days; 1 yields 1"
        last = read_bill(f"{products}\n{part}")
        first = read_bill(f"{part}\n{products}")
        self.assertEqual(least_help(last, (0, (0,) * 8, (), tuple((at + 1, at, 2, 2 + at) for at in range(7))), 14),
                         (0, 0, 0, 0, 0, 0, 0, 14))
        self.assertEqual(least_help(first, (0, (0,) * 8, (), tuple((at, at, 2, 2 + at) for at in range(1, 8))), 14),
                         (0, 2, 2, 2, 2, 2, 2, 2))
        self.assertIsNone(least_or_none(last, (0, (0,) * 8, (), tuple((at + 1, at, 3, 2) for at in range(7))), 12))

    def test_no_piece_of_it_can_be_missing(self):
        for bill, books in made_up(100, "great"):
            extra = least_or_none(bill, books, 60)
            above = help_from_above(bill, books)
            with self.subTest(bill=bill, books=books):
                if extra is None:
                    self.assertGreater(sum(above), 60)
                else:
                    self.assertLessEqual(sum(extra), min(60, sum(above)))
                    self.assertIs(is_enough(bill, books, extra), True)
                    for less in piece_less(extra):
                        self.assertIs(is_enough(bill, books, less), False)
                    self.assertIsNone(least_or_none(bill, books, sum(extra) - 1))


if __name__ == "__main__":
    unittest.main()
