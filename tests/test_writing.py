"""[b4]: bills as they are written."""

import unittest

from latestart.bills import read_bill
from latestart.writing import write_bill

from tests.made_up import made_up


class Lines(unittest.TestCase):
    def test_the_bill_of_the_examples(self):
        bill = (("wheel", (), 3, 4, 4), ("bicycle", ((0, 2),), 2, 1, 1))
        self.assertEqual(write_bill(bill), "wheel: ; 3 days; 4 yields 4\nbicycle: 2 wheel; 2 days; 1 yields 1\n")

    def test_a_bill_without_items(self):
        self.assertEqual(write_bill(()), "")

    def test_an_item_without_parts(self):
        self.assertEqual(write_bill((("a", (), 0, 50, 1),)), "a: ; 0 days; 50 yields 1\n")

    def test_an_item_with_one_part(self):
        for quantity, written in ((1, "b"), (2, "2 b"), (9, "9 b"), (10, "10 b"), (11, "11 b"), (20, "20 b")):
            with self.subTest(quantity=quantity):
                bill = (("a", ((1, quantity),), 10, 3, 2), ("b", (), 1, 1, 1))
                self.assertEqual(write_bill(bill), f"a: {written}; 10 days; 3 yields 2\nb: ; 1 days; 1 yields 1\n")

    def test_an_item_with_several_parts_in_their_order(self):
        bill = (("x", (), 1, 1, 1), ("a", ((2, 1), (0, 20), (2, 3), (0, 1)), 7, 8, 5), ("y", (), 1, 1, 1))
        self.assertEqual(write_bill(bill), "x: ; 1 days; 1 yields 1\na: y, 20 x, 3 y, x; 7 days; 8 yields 5\n"
                                           "y: ; 1 days; 1 yields 1\n")

    def test_lead_lot_and_yield_stand_in_their_places(self):
        self.assertEqual(write_bill((("a", (), 2, 4, 3),)), "a: ; 2 days; 4 yields 3\n")

    def test_the_words_days_and_yields_as_names(self):
        bill = (("days", ((1, 1),), 2, 3, 1), ("yields", (), 4, 5, 2))
        self.assertEqual(write_bill(bill), "days: yields; 2 days; 3 yields 1\nyields: ; 4 days; 5 yields 2\n")

    def test_eight_items_in_their_order(self):
        bill = tuple((name, (), 1, 1, 1) for name in "hgfedcba")
        self.assertEqual(write_bill(bill), "".join(f"{name}: ; 1 days; 1 yields 1\n" for name in "hgfedcba"))


class ReadAgain(unittest.TestCase):
    def test_reading_what_was_written_gives_the_bill(self):
        for bill, _ in made_up(400, "writing"):
            with self.subTest(bill=bill):
                self.assertEqual(read_bill(write_bill(bill)), bill)

    def test_what_was_written_is_written_so_again(self):
        text = "b:2c,1 c;0days;5yields3\n\n  c  : ;10 days ; 50 yields 50"
        self.assertEqual(write_bill(read_bill(text)), "b: 2 c, c; 0 days; 5 yields 3\nc: ; 10 days; 50 yields 50\n")


if __name__ == "__main__":
    unittest.main()
