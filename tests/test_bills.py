"""[b1], [c2] and [c3]: what a text that is a bill is read as, and the items by their names."""

import unittest

from latestart.bills import item_named, read_bill
from latestart.errors import NoSuchItem


def lone(name):
    """A line of an item without parts."""
    return f"{name}: ; 1 days; 1 yields 1"


class Texts(unittest.TestCase):
    def test_the_example_of_the_interface(self):
        bill = read_bill("wheel: ; 3 days; 4 yields 4\nbicycle: 2 wheel; 2 days; 1 yields 1")
        self.assertEqual(bill, (("wheel", (), 3, 4, 4), ("bicycle", ((0, 2),), 2, 1, 1)))

    def test_the_example_of_the_point(self):
        bill = read_bill("bicycle: frame, 2 wheel; 2 days; 1 yields 1\n" + lone("wheel") + "\n" + lone("frame"))
        self.assertEqual(bill, (("bicycle", ((2, 1), (1, 2)), 2, 1, 1),
                                ("wheel", (), 1, 1, 1), ("frame", (), 1, 1, 1)))

    def test_a_text_without_items(self):
        for text in ("", " ", "\n", "   \n\n \n"):
            with self.subTest(text=text):
                self.assertEqual(read_bill(text), ())

    def test_lines_without_tokens_are_passed_over(self):
        bill = read_bill("wheel: ; 3 days; 4 yields 4\nbicycle: 2 wheel; 2 days; 1 yields 1")
        for text in ("\nwheel: ; 3 days; 4 yields 4\nbicycle: 2 wheel; 2 days; 1 yields 1",
                     "wheel: ; 3 days; 4 yields 4\n\n   \nbicycle: 2 wheel; 2 days; 1 yields 1",
                     "wheel: ; 3 days; 4 yields 4\nbicycle: 2 wheel; 2 days; 1 yields 1\n",
                     "  \n\nwheel: ; 3 days; 4 yields 4\n \nbicycle: 2 wheel; 2 days; 1 yields 1\n\n  "):
            with self.subTest(text=text):
                self.assertEqual(read_bill(text), bill)

    def test_spaces_do_not_matter(self):
        bill = (("a", ((1, 2), (1, 1)), 0, 5, 3), ("b", (), 10, 50, 50))
        for text in ("a:2b,b;0days;5yields3\nb:;10days;50yields50",
                     "  a  :  2  b  ,  b  ;  0  days  ;  5  yields  3  \n  b  :  ;  10  days  ;  50  yields  50  "):
            with self.subTest(text=text):
                self.assertEqual(read_bill(text), bill)

    def test_everything_in_it_is_a_tuple(self):
        bill = read_bill("a: 2 b, c; 1 days; 1 yields 1\n" + lone("b") + "\n" + lone("c"))
        self.assertIs(type(bill), tuple)
        for row in bill:
            self.assertEqual([type(part) for part in row], [str, tuple, int, int, int])
            self.assertTrue(all(type(pair) is tuple for pair in row[1]))


class Parts(unittest.TestCase):
    def parts_of(self, written):
        """The parts of an item beside which a, b, c and d are the items 0 to 3."""
        return read_bill("\n".join([lone(name) for name in "abcd"] + [f"e: {written}; 1 days; 1 yields 1"]))[4][1]

    def test_none(self):
        self.assertEqual(self.parts_of(""), ())

    def test_one_to_four_in_the_order_of_the_text(self):
        self.assertEqual(self.parts_of("b"), ((1, 1),))
        self.assertEqual(self.parts_of("d, a"), ((3, 1), (0, 1)))
        self.assertEqual(self.parts_of("c, a, b"), ((2, 1), (0, 1), (1, 1)))
        self.assertEqual(self.parts_of("d, c, b, a"), ((3, 1), (2, 1), (1, 1), (0, 1)))

    def test_with_and_without_a_quantity(self):
        self.assertEqual(self.parts_of("7 b"), ((1, 7),))
        self.assertEqual(self.parts_of("1 b, b"), ((1, 1), (1, 1)))
        self.assertEqual(self.parts_of("3 d, c, 11 b, a"), ((3, 3), (2, 1), (1, 11), (0, 1)))

    def test_the_same_part_twice_stays_so(self):
        self.assertEqual(self.parts_of("2 a, b, 3 a"), ((0, 2), (1, 1), (0, 3)))
        self.assertEqual(self.parts_of("a, a, a, a"), ((0, 1), (0, 1), (0, 1), (0, 1)))

    def test_parts_that_are_defined_later(self):
        bill = read_bill("a: 2 c, b; 1 days; 1 yields 1\nb: 3 c; 1 days; 1 yields 1\n" + lone("c"))
        self.assertEqual([row[1] for row in bill], [((2, 2), (1, 1)), ((2, 3),), ()])

    def test_a_part_by_several_ways_is_no_loop(self):
        bill = read_bill("d: b, c; 1 days; 1 yields 1\nb: a; 1 days; 1 yields 1\nc: a, b; 1 days; 1 yields 1\n"
                         + lone("a"))
        self.assertEqual([row[1] for row in bill], [((1, 1), (2, 1)), ((3, 1),), ((3, 1), (1, 1)), ()])

    def test_a_chain_of_eight(self):
        rows = [f"{name}: 2 {part}; 1 days; 1 yields 1" for name, part in zip("abcdefg", "bcdefgh")]
        bill = read_bill("\n".join(rows + [lone("h")]))
        self.assertEqual([row[1] for row in bill], [((item + 1, 2),) for item in range(7)] + [()])


class Words(unittest.TestCase):
    def test_days_and_yields_are_names_of_items_and_of_parts(self):
        bill = read_bill("days: yields; 2 days; 3 yields 1\nyields: ; 4 days; 5 yields 2")
        self.assertEqual(bill, (("days", ((1, 1),), 2, 3, 1), ("yields", (), 4, 5, 2)))

    def test_beside_quantities_and_each_other(self):
        bill = read_bill("yields: 2 days, days; 0 days; 1 yields 1\ndays: ; 0 days; 1 yields 1")
        self.assertEqual(bill, (("yields", ((1, 2), (1, 1)), 0, 1, 1), ("days", (), 0, 1, 1)))


class Bounds(unittest.TestCase):
    def test_eight_items(self):
        bill = read_bill("\n".join(lone(name) for name in "hgfedcba"))
        self.assertEqual([row[0] for row in bill], list("hgfedcba"))

    def test_quantities(self):
        for quantity in (1, 2, 19, 20):
            bill = read_bill(f"a: {quantity} b; 1 days; 1 yields 1\n" + lone("b"))
            self.assertEqual(bill[0], ("a", ((1, quantity),), 1, 1, 1))

    def test_leads(self):
        for lead in range(11):
            self.assertEqual(read_bill(f"a: ; {lead} days; 1 yields 1"), (("a", (), lead, 1, 1),))

    def test_lots_and_yields(self):
        for lot, good in ((1, 1), (2, 1), (2, 2), (50, 1), (50, 49), (50, 50)):
            self.assertEqual(read_bill(f"a: ; 1 days; {lot} yields {good}"), (("a", (), 1, lot, good),))

    def test_names(self):
        for name in ("a", "z", "abcdefghijkl"):
            self.assertEqual(read_bill(lone(name)), ((name, (), 1, 1, 1),))

    def test_a_text_of_2000_characters(self):
        text = lone("a") + " " * (1999 - len(lone("a") + lone("b"))) + "\n" + lone("b")
        self.assertEqual(len(text), 2000)
        self.assertEqual([row[0] for row in read_bill(text)], ["a", "b"])
        self.assertEqual(read_bill("\n" * 2000), ())


class Named(unittest.TestCase):
    def test_each_item(self):
        names = ["wheel", "days", "a", "ab", "abcdefghijkl", "yields", "b", "z"]
        bill = read_bill("\n".join(lone(name) for name in names))
        self.assertEqual([item_named(bill, name) for name in names], list(range(8)))

    def test_no_such_item(self):
        bill = read_bill(lone("wheel") + "\n" + lone("ab"))
        for name in ("frame", "whee", "wheels", "a", "b", "", "Wheel"):
            with self.subTest(name=name), self.assertRaises(NoSuchItem) as context:
                item_named(bill, name)
            self.assertEqual(context.exception.name, name)

    def test_a_bill_without_items(self):
        with self.assertRaises(NoSuchItem) as context:
            item_named((), "wheel")
        self.assertEqual(context.exception.name, "wheel")


if __name__ == "__main__":
    unittest.main()
