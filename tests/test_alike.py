"""[a1] to [a3]: which bills are alike, and the books that part others."""

import random
import unittest

from latestart.alike import are_alike, parting_books, taken_by_lot
from latestart.bills import read_bill
from latestart.books import check_books
from latestart.needs import needed

from tests.made_up import made_bill, made_books, small_bill, small_books

ONE = read_bill("nut: ; 1 days; 9 yields 9\nbolt: 2 nut; 1 days; 3 yields 3")
TWO = read_bill("nut: ; 1 days; 9 yields 9\nbolt: 1 nut; 1 days; 6 yields 3")

# Three items below a fourth one.
BASE = (("a", (), 1, 4, 4), ("b", (), 2, 3, 2), ("c", ((1, 4),), 3, 2, 1), ("d", ((0, 2), (2, 3), (0, 1)), 1, 5, 5))


def with_row(bill, item, **fields):
    """A bill with other fields of an item."""
    names = ("name", "parts", "lead", "lot", "good")
    row = tuple(fields.get(name, value) for name, value in zip(names, bill[item]))
    return (*bill[:item], row, *bill[item + 1:])


def differences(one, two):
    """[a2] and [a3], taken word by word: what differs, in the order in which it is looked for."""
    found = []
    for item in range(len(one)):
        if one[item][2] != two[item][2]:
            found.append((item, "lead"))
        if one[item][4] != two[item][4]:
            found.append((item, "yield"))
        for other in range(len(one)):
            if takings(one, item)[other] != takings(two, item)[other]:
                found.append((item, other))
    return found


def takings(bill, item):
    """How many pieces of each item a lot of an item takes."""
    found = [0] * len(bill)
    for part, quantity in bill[item][1]:
        for _ in range(quantity):
            found[part] += bill[item][3]
    return found


def books_again(one, two, item, what):
    """The books of [a3] for what differs first."""
    stock = [10000] * len(one)
    stock[item] = 0
    quantity = 1
    if what == "yield":
        quantity = max(one[item][4], two[item][4])
    elif what != "lead":
        stock[what] = min(takings(one, item)[what], takings(two, item)[what])
    return 0, tuple(stock), (), ((1, item, quantity, 100),)


def slightly_other(chance, bill):
    """A bill that differs in a few things, some of which make it another and some not."""
    for _ in range(chance.choice((0, 1, 1, 2, 4))):
        item = chance.randrange(len(bill))
        _, parts, lead, lot, good = bill[item]
        parts = list(parts)
        deed = chance.choice(("name", "order", "split", "factor", "lead", "good", "lot", "quantity", "part"))
        if deed == "name":
            bill = with_row(bill, item, name="x" + bill[item][0][:11])
        elif deed == "order":
            chance.shuffle(parts)
        elif deed == "split" and len(parts) < 4 and parts and parts[0][1] > 1:
            parts[0:1] = [(parts[0][0], 1), (parts[0][0], parts[0][1] - 1)]
        elif deed == "factor" and 2 * good <= lot and all(quantity < 10 for _, quantity in parts) and lot % 2 == 0:
            parts = [(part, 2 * quantity) for part, quantity in parts]
            lot //= 2
        elif deed == "lead":
            lead = (lead + 1) % 11
        elif deed == "good":
            good = good % lot + 1
        elif deed == "lot":
            lot = min(50, lot + 1)
        elif deed == "quantity" and parts:
            parts[-1] = (parts[-1][0], parts[-1][1] % 20 + 1)
        elif deed == "part" and parts:
            parts.pop()
        bill = with_row(bill, item, parts=tuple(parts), lead=lead, lot=lot, good=good)
    return bill


class TakenByLot(unittest.TestCase):
    def test_the_lot_times_the_quantity(self):
        self.assertEqual(taken_by_lot(ONE, 1, 0), 6)
        self.assertEqual(taken_by_lot(TWO, 1, 0), 6)
        self.assertEqual(taken_by_lot(BASE, 2, 1), 8)

    def test_several_parts(self):
        self.assertEqual([taken_by_lot(BASE, 3, other) for other in range(4)], [15, 0, 15, 0])

    def test_what_is_not_used(self):
        self.assertEqual(taken_by_lot(ONE, 0, 1), 0)
        self.assertEqual(taken_by_lot(ONE, 0, 0), 0)
        self.assertEqual(taken_by_lot(BASE, 2, 3), 0)

    def test_made_up_bills(self):
        chance = random.Random("taken")
        for _ in range(100):
            bill = made_bill(chance, chance.randint(0, 8))
            for item in range(len(bill)):
                with self.subTest(bill=bill, item=item):
                    self.assertEqual([taken_by_lot(bill, item, other) for other in range(len(bill))],
                                     takings(bill, item))


class Alike(unittest.TestCase):
    def expect(self, one, two):
        for pair in ((one, two), (two, one)):
            with self.subTest(pair=pair):
                self.assertIs(are_alike(*pair), True)
                self.assertIsNone(parting_books(*pair))

    def test_the_example_of_the_interface(self):
        self.expect(ONE, TWO)

    def test_the_same_bill(self):
        self.expect((), ())
        self.expect(BASE, BASE)

    def test_other_names(self):
        self.expect(BASE, tuple((name, *row[1:]) for name, row in zip("dcba", BASE)))

    def test_another_order_of_the_parts(self):
        self.expect(BASE, with_row(BASE, 3, parts=((2, 3), (0, 1), (0, 2))))

    def test_a_quantity_told_by_several_parts(self):
        self.expect(BASE, with_row(BASE, 3, parts=((0, 3), (2, 3))))
        self.expect(BASE, with_row(BASE, 3, parts=((0, 1), (0, 1), (2, 3), (0, 1))))

    def test_other_factors(self):
        self.expect(BASE, with_row(BASE, 2, parts=((1, 2),), lot=4))
        self.expect(BASE, with_row(BASE, 2, parts=((1, 8),), lot=1))
        self.expect(BASE, with_row(BASE, 2, parts=((1, 1),), lot=8))

    def test_lots_of_items_without_parts(self):
        self.expect(BASE, with_row(BASE, 0, lot=50))
        self.expect(BASE, with_row(BASE, 1, lot=2))

    def test_they_have_the_same_needed_lots(self):
        chance = random.Random("alike")
        alike = 0
        for _ in range(1500):
            one = small_bill(chance, chance.randint(1, 5))
            two = slightly_other(chance, one)
            if one != two and not differences(one, two):
                alike += 1
                self.expect(one, two)
                for books in (small_books(chance, one, 0), made_books(chance, one)):
                    with self.subTest(one=one, two=two, books=books):
                        self.assertEqual(needed(one, books), needed(two, books))
        self.assertGreater(alike, 200)


class Parted(unittest.TestCase):
    def expect(self, one, two, books):
        for pair in ((one, two), (two, one)):
            with self.subTest(pair=pair):
                self.assertIs(are_alike(*pair), False)
                self.assertEqual(parting_books(*pair), books)
        self.assertIsNone(check_books(one, books))
        self.assertNotEqual(needed(one, books), needed(two, books))

    def test_leads(self):
        for lead in (0, 2, 10):
            self.expect(BASE, with_row(BASE, 0, lead=lead), (0, (0, 10000, 10000, 10000), (), ((1, 0, 1, 100),)))
        self.expect(BASE, with_row(BASE, 3, lead=2), (0, (10000, 10000, 10000, 0), (), ((1, 3, 1, 100),)))

    def test_yields(self):
        self.expect(BASE, with_row(BASE, 0, good=3), (0, (0, 10000, 10000, 10000), (), ((1, 0, 4, 100),)))
        self.expect(BASE, with_row(BASE, 1, lot=50, good=50), (0, (10000, 0, 10000, 10000), (), ((1, 1, 50, 100),)))
        self.expect(BASE, with_row(BASE, 3, good=1), (0, (10000, 10000, 10000, 0), (), ((1, 3, 5, 100),)))

    def test_takings(self):
        self.expect(BASE, with_row(BASE, 2, parts=((1, 5),)), (0, (10000, 8, 0, 10000), (), ((1, 2, 1, 100),)))
        self.expect(BASE, with_row(BASE, 2, parts=((1, 3),)), (0, (10000, 6, 0, 10000), (), ((1, 2, 1, 100),)))
        self.expect(BASE, with_row(BASE, 2, lot=3), (0, (10000, 8, 0, 10000), (), ((1, 2, 1, 100),)))
        self.expect(BASE, with_row(BASE, 3, parts=((0, 3), (2, 2))), (0, (10000, 10000, 10, 0), (), ((1, 3, 1, 100),)))

    def test_a_part_that_is_not_there(self):
        self.expect(BASE, with_row(BASE, 2, parts=()), (0, (10000, 0, 0, 10000), (), ((1, 2, 1, 100),)))
        self.expect(BASE, with_row(BASE, 2, parts=((0, 1), (1, 4))), (0, (0, 10000, 0, 10000), (), ((1, 2, 1, 100),)))

    def test_another_part(self):
        self.expect(BASE, with_row(BASE, 2, parts=((0, 4),)), (0, (0, 10000, 0, 10000), (), ((1, 2, 1, 100),)))

    def test_several_differences_of_one_item(self):
        lead = (0, (10000, 10000, 0, 10000), (), ((1, 2, 1, 100),))
        self.expect(BASE, with_row(BASE, 2, lead=4, lot=5, good=3, parts=()), lead)
        self.expect(BASE, with_row(BASE, 2, lead=4, good=2), lead)
        self.expect(BASE, with_row(BASE, 2, lot=5, good=3), (0, (10000, 10000, 0, 10000), (), ((1, 2, 3, 100),)))
        self.expect(BASE, with_row(BASE, 3, lot=4, good=4), (0, (10000, 10000, 10000, 0), (), ((1, 3, 5, 100),)))
        self.expect(BASE, with_row(BASE, 3, parts=((2, 1),)), (0, (0, 10000, 10000, 0), (), ((1, 3, 1, 100),)))

    def test_the_first_of_several_items(self):
        self.expect(BASE, with_row(with_row(BASE, 3, lead=9), 2, parts=((1, 5),)),
                    (0, (10000, 8, 0, 10000), (), ((1, 2, 1, 100),)))
        self.expect(BASE, with_row(with_row(BASE, 1, good=3), 0, good=2),
                    (0, (0, 10000, 10000, 10000), (), ((1, 0, 4, 100),)))
        self.expect(BASE, with_row(with_row(BASE, 3, lead=9), 1, good=3),
                    (0, (10000, 0, 10000, 10000), (), ((1, 1, 3, 100),)))

    def test_a_part_with_a_greater_number(self):
        bill = (("a", ((1, 2), (2, 1)), 0, 50, 1), ("b", (), 0, 1, 1), ("c", (), 0, 1, 1))
        self.expect(bill, with_row(bill, 0, lot=49), (0, (0, 98, 10000), (), ((1, 0, 1, 100),)))
        self.expect(bill, with_row(bill, 0, parts=((1, 2), (2, 2))), (0, (0, 10000, 50), (), ((1, 0, 1, 100),)))

    def test_made_up_bills(self):
        chance = random.Random("parted")
        found = {}
        for _ in range(1200):
            one = chance.choice((made_bill, small_bill))(chance, chance.randint(1, 6))
            two = slightly_other(chance, one)
            unlike = differences(one, two)
            kind = "alike" if not unlike else unlike[0][1] if isinstance(unlike[0][1], str) else "taking"
            found[kind] = found.get(kind, 0) + 1
            with self.subTest(one=one, two=two):
                self.assertIs(are_alike(one, two), not unlike)
                if unlike:
                    self.expect(one, two, books_again(one, two, *unlike[0]))
        self.assertGreater(min(found[kind] for kind in ("alike", "lead", "yield", "taking")), 50)

    def test_bills_of_unlike_sizes(self):
        self.assertIs(are_alike(BASE, BASE[:3]), False)
        self.assertIs(are_alike(BASE[:3], BASE), False)
        self.assertIs(are_alike((), BASE), False)


if __name__ == "__main__":
    unittest.main()
