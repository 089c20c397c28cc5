"""[p3]: the paper that the program makes."""

import unittest

from latestart.bills import read_bill
from latestart.papers import paper_of

from tests.by_days import pairs_by_days
from tests.made_up import made_up
from tests.test_levels import expected_order

EXAMPLE = read_bill("wheel: ; 3 days; 4 yields 4\nbicycle: 2 wheel; 2 days; 1 yields 1")


class Papers(unittest.TestCase):
    def test_the_example_of_the_interface(self):
        self.assertEqual(paper_of(EXAMPLE, (0, (3, 0), (), ((1, 1, 2, 6),))), [(1, 4, 2), (0, 1, 1)])

    def test_the_empty_paper(self):
        for bill, books in (((), (0, (), (), ())), (EXAMPLE, (0, (0, 0), ((1, 3, 2),), ())),
                            (EXAMPLE, (5, (0, 2), (), ((1, 1, 2, 5),)))):
            self.assertEqual(paper_of(bill, books), [])

    def test_parents_first_and_each_by_rising_days(self):
        bill = read_bill("a: ; 1 days; 1 yields 1\nb: 2 a; 1 days; 1 yields 1\nc: ; 2 days; 1 yields 1")
        books = (0, (0, 0, 0), (), ((1, 2, 1, 9), (2, 1, 1, 20), (3, 0, 5, 8), (4, 1, 3, 6), (5, 2, 1, 5)))
        self.assertEqual(paper_of(bill, books), [(1, 5, 3), (1, 19, 4), (0, 4, 6), (0, 7, 11), (0, 18, 13),
                                                 (2, 3, 1), (2, 7, 2)])

    def test_days_before_today_and_below_0(self):
        self.assertEqual(paper_of(EXAMPLE, (6, (3, 0), (), ((1, 1, 2, 6), (2, 1, 3, 20)))),
                         [(1, 4, 2), (1, 18, 5), (0, 1, 1), (0, 15, 2)])
        self.assertEqual(paper_of(EXAMPLE, (0, (0, 0), (), ((1, 1, 2, 0), (2, 0, 5, 1)))),
                         [(1, -2, 2), (0, -5, 1), (0, -2, 3)])

    def test_lists_of_tuples(self):
        paper = paper_of(EXAMPLE, (0, (3, 0), (), ((1, 1, 2, 6),)))
        self.assertIs(type(paper), list)
        self.assertEqual([type(fact) for fact in paper], [tuple, tuple])

    def test_made_up_books(self):
        facts = 0
        for bill, books in made_up(400, "papers"):
            pairs = pairs_by_days(bill, books)
            paper = paper_of(bill, books)
            facts += len(paper)
            with self.subTest(bill=bill, books=books):
                self.assertEqual(paper, [(item, *pair) for item in expected_order(bill) for pair in pairs[item]])
        self.assertGreater(facts, 500)


if __name__ == "__main__":
    unittest.main()
