"""[n1]: the needed lots."""

import unittest

from latestart.bills import read_bill
from latestart.needs import needed, needed_by

from tests.by_days import HIGH, LOW, lots_by_days, pairs_by_days
from tests.made_up import made_up

EXAMPLE = read_bill("wheel: ; 3 days; 4 yields 4\nbicycle: 2 wheel; 2 days; 1 yields 1")


def lone(lead, lot, good):
    """A bill of one item."""
    return (("a", (), lead, lot, good),)


class OneItem(unittest.TestCase):
    def pairs(self, bill, stock, receipts, orders, today=0):
        """The pairs of the one item of a bill, with receipts (day, quantity) and orders (quantity, day)."""
        books = (today, (stock,), tuple((0, *entry) for entry in receipts),
                 tuple((at + 1, 0, *entry) for at, entry in enumerate(orders)))
        self.assertEqual(needed(bill, books), pairs_by_days(bill, books))
        return needed(bill, books)[0]

    def test_nothing_is_ordered(self):
        self.assertEqual(self.pairs(lone(1, 1, 1), 0, (), ()), ())
        self.assertEqual(self.pairs(lone(1, 1, 1), 5, ((3, 7),), ()), ())

    def test_the_lead_ahead_of_the_order(self):
        for lead in range(11):
            self.assertEqual(self.pairs(lone(lead, 1, 1), 0, (), ((1, 20),)), ((20 - lead, 1),))

    def test_days_before_today_and_below_0(self):
        self.assertEqual(self.pairs(lone(3, 1, 1), 0, (), ((2, 50),), 50), ((47, 2),))
        self.assertEqual(self.pairs(lone(10, 1, 1), 0, (), ((2, 0), (1, 9), (1, 10))), ((-10, 2), (-1, 3), (0, 4)))

    def test_lots_are_rounded_up(self):
        for ordered, lots in ((1, 1), (2, 1), (3, 1), (4, 2), (6, 2), (7, 3), (300, 100), (301, 101)):
            self.assertEqual(self.pairs(lone(2, 3, 3), 0, (), ((ordered, 9),)), ((7, lots),))

    def test_the_yield_counts_and_not_the_lot(self):
        for lot in (3, 4, 50):
            self.assertEqual(self.pairs(lone(2, lot, 3), 0, (), ((10, 9),)), ((7, 4),))

    def test_stock_covers_a_part_or_all(self):
        for stock, expected in ((0, ((7, 4),)), (1, ((7, 3),)), (9, ((7, 1),)), (10, ()), (11, ()), (10000, ())):
            self.assertEqual(self.pairs(lone(2, 3, 3), stock, (), ((10, 9),)), expected)

    def test_a_receipt_covers_what_is_ordered_from_its_day_on(self):
        orders = ((10, 9), (2, 12))
        self.assertEqual(self.pairs(lone(2, 1, 1), 0, ((8, 10),), orders), ((10, 2),))
        self.assertEqual(self.pairs(lone(2, 1, 1), 0, ((9, 10),), orders), ((10, 2),))
        self.assertEqual(self.pairs(lone(2, 1, 1), 0, ((9, 12),), orders), ())
        self.assertEqual(self.pairs(lone(2, 1, 1), 0, ((9, 500),), orders), ())

    def test_a_receipt_that_comes_too_late(self):
        self.assertEqual(self.pairs(lone(2, 1, 1), 0, ((10, 10),), ((10, 9),)), ((7, 10),))
        self.assertEqual(self.pairs(lone(2, 1, 1), 0, ((10, 10),), ((10, 9), (8, 12))), ((7, 10),))
        self.assertEqual(self.pairs(lone(2, 1, 1), 0, ((10, 10),), ((10, 9), (10, 12), (1, 13))), ((7, 10), (11, 11)))

    def test_orders_that_the_rounding_covers_have_no_pair(self):
        self.assertEqual(self.pairs(lone(1, 5, 5), 0, (), ((3, 10), (2, 11), (1, 12))), ((9, 1), (11, 2)))

    def test_orders_of_one_day_are_summed(self):
        self.assertEqual(self.pairs(lone(1, 5, 5), 0, (), ((3, 10), (3, 10), (3, 10))), ((9, 2),))

    def test_orders_that_do_not_stand_in_the_order_of_their_days(self):
        self.assertEqual(self.pairs(lone(1, 1, 1), 0, (), ((3, 30), (2, 10), (4, 20))), ((9, 2), (19, 6), (29, 9)))


class SeveralItems(unittest.TestCase):
    def expect(self, text, books, expected):
        bill = read_bill(text)
        self.assertEqual(needed(bill, books), expected)
        self.assertEqual(pairs_by_days(bill, books), expected)

    def test_the_example_of_the_interface(self):
        books = (0, (3, 0), (), ((1, 1, 2, 6),))
        self.assertEqual(needed(EXAMPLE, books), (((1, 1),), ((4, 2),)))

    def test_no_items(self):
        self.assertEqual(needed((), (0, (), (), ())), ())

    def test_items_without_needed_lots(self):
        self.assertEqual(needed(EXAMPLE, (0, (0, 0), (), ())), ((), ()))
        self.assertEqual(needed(EXAMPLE, (0, (4, 0), (), ((1, 1, 2, 6),))), ((), ((4, 2),)))
        self.assertEqual(needed(EXAMPLE, (0, (0, 0), (), ((1, 0, 4, 6),))), (((3, 1),), ()))

    def test_tuples_within_tuples(self):
        found = needed(EXAMPLE, (0, (3, 0), (), ((1, 1, 2, 6),)))
        self.assertIs(type(found), tuple)
        self.assertEqual([type(pairs) for pairs in found], [tuple, tuple])
        self.assertEqual([type(pair) for pairs in found for pair in pairs], [tuple, tuple])

    def test_whole_lots_take_parts(self):
        self.expect("b: 2 a, a; 2 days; 10 yields 7\na: ; 1 days; 8 yields 4", (0, (0, 0), (), ((1, 0, 8, 9),)),
                    (((7, 2),), ((6, 15),)))

    def test_an_item_that_several_others_use_and_that_is_ordered(self):
        self.expect("b: 2 a; 1 days; 1 yields 1\na: ; 3 days; 1 yields 1\nc: 5 a; 2 days; 1 yields 1",
                    (0, (0, 0, 1), (), ((1, 0, 1, 10), (2, 1, 100, 9), (3, 2, 3, 9), (4, 0, 1, 20))),
                    (((9, 1), (19, 2)), ((4, 10), (6, 112), (16, 114)), ((7, 2),)))

    def test_leads_of_0(self):
        self.expect("a: ; 0 days; 1 yields 1\nb: 3 a; 0 days; 1 yields 1\nc: b; 0 days; 1 yields 1",
                    (5, (1, 2, 0), (), ((1, 2, 4, 5), (2, 0, 1, 6))), (((5, 5), (6, 6)), ((5, 2),), ((5, 4),)))

    def test_days_before_today_and_below_0(self):
        self.expect("a: b; 3 days; 1 yields 1\nb: c; 10 days; 1 yields 1\nc: ; 10 days; 1 yields 1",
                    (2, (0, 0, 7), (), ((1, 0, 5, 4), (2, 0, 4, 30))),
                    (((1, 5), (27, 9)), ((-9, 5), (17, 9)), ((7, 2),)))

    def test_80_days_down(self):
        rows = [f"{name}: {part}; 10 days; 1 yields 1" for name, part in zip("abcdefg", "bcdefgh")]
        self.expect("\n".join([*rows, "h: ; 10 days; 1 yields 1"]), (0, (0,) * 8, (), ((1, 0, 1, 0),)),
                    tuple(((-10 * level, 1),) for level in range(1, 9)))

    def test_a_receipt_that_comes_too_late_for_the_parts(self):
        text = "a: b; 3 days; 1 yields 1\nb: ; 1 days; 1 yields 1"
        self.expect(text, (0, (0, 0), ((1, 7, 5),), ((1, 0, 5, 10),)), (((7, 5),), ()))
        self.expect(text, (0, (0, 0), ((1, 8, 5),), ((1, 0, 5, 10),)), (((7, 5),), ((6, 5),)))
        self.expect(text, (9, (0, 2), ((1, 9, 5),), ((1, 0, 5, 10),)), (((7, 5),), ((6, 3),)))

    def test_parents_whose_number_is_greater(self):
        self.expect("a: ; 1 days; 1 yields 1\nb: 2 c; 1 days; 1 yields 1\nc: 3 a; 1 days; 1 yields 1",
                    (0, (0, 0, 0), (), ((1, 1, 1, 9),)), (((6, 6),), ((8, 1),), ((7, 2),)))

    def test_a_day_on_which_no_more_lots_are_needed_has_no_pair(self):
        self.expect("a: ; 1 days; 10 yields 10\nb: 2 a; 1 days; 1 yields 1",
                    (0, (0, 0), ((0, 30, 5),), ((1, 1, 3, 11), (2, 1, 2, 21), (3, 1, 2, 31), (4, 1, 1, 41))),
                    (((9, 1), (39, 2)), ((10, 3), (20, 5), (30, 7), (40, 8))))


class MadeUp(unittest.TestCase):
    def test_the_same_day_by_day(self):
        several = below = 0
        for bill, books in made_up(700, "needs"):
            found = needed(bill, books)
            several += sum(len(pairs) > 1 for pairs in found)
            below += any(day < 0 for pairs in found for day, _ in pairs)
            with self.subTest(bill=bill, books=books):
                self.assertEqual(found, pairs_by_days(bill, books))
        self.assertGreater(several, 300)
        self.assertGreater(below, 30)

    def test_needed_by_on_every_day(self):
        for bill, books in made_up(60, "needed by"):
            found = needed(bill, books)
            for item, lots in enumerate(lots_by_days(bill, books)):
                with self.subTest(bill=bill, books=books, item=item):
                    self.assertEqual({day: needed_by(found, item, day) for day in range(LOW, HIGH + 1)}, lots)


class NeededBy(unittest.TestCase):
    NEEDS = (((-3, 2), (5, 3), (9, 40)), (), ((6, 1),))

    def test_before_on_between_and_behind_the_days_of_the_pairs(self):
        found = [needed_by(self.NEEDS, 0, day) for day in (-100, -4, -3, -2, 0, 4, 5, 6, 8, 9, 10, 200)]
        self.assertEqual(found, [0, 0, 2, 2, 2, 2, 3, 3, 3, 40, 40, 40])
        self.assertEqual([needed_by(self.NEEDS, 2, day) for day in (-1, 5, 6, 7, 200)], [0, 0, 1, 1, 1])

    def test_an_item_without_needed_lots(self):
        self.assertEqual([needed_by(self.NEEDS, 1, day) for day in (-100, 0, 200)], [0, 0, 0])


if __name__ == "__main__":
    unittest.main()
