"""[b5] and [b6]: which items use which, the order parents first, and the whole leads."""

import unittest

from latestart.bills import read_bill
from latestart.levels import parents_first, used_by, whole_lead

from tests.made_up import made_up


def bill_of(*rows):
    """A bill of rows (parts, lead)."""
    return tuple((name, parts, lead, 1, 1) for name, (parts, lead) in zip("abcdefgh", rows))


def uses(*parts):
    """A bill of items with these parts."""
    return bill_of(*[(pairs, 1) for pairs in parts])


def expected_order(bill):
    """The order of [b5], taken word by word."""
    taken = []
    for _ in bill:
        waiting = [item for item in range(len(bill)) if item not in taken]
        used = {part for item in waiting for part, _ in bill[item][1]}
        taken.append(min(item for item in waiting if item not in used))
    return tuple(taken)


def chains(bill, item):
    """Yields all chains of items that begin with an item and go down to one without parts."""
    if not bill[item][1]:
        yield (item,)
    for part in {part for part, _ in bill[item][1]}:
        for chain in chains(bill, part):
            yield (item, *chain)


class Uses(unittest.TestCase):
    def test_the_example_of_the_interface(self):
        bill = read_bill("wheel: ; 3 days; 4 yields 4\nbicycle: 2 wheel; 2 days; 1 yields 1")
        self.assertEqual((parents_first(bill), used_by(bill, 0)), ((1, 0), [(1, 2)]))
        self.assertEqual(used_by(bill, 1), [])

    def test_an_item_that_nothing_uses(self):
        bill = uses(((1, 3),), (), ())
        self.assertEqual([used_by(bill, item) for item in range(3)], [[], [(0, 3)], []])

    def test_several_items_by_rising_numbers(self):
        bill = uses(((2, 5),), ((2, 1),), (), ((2, 20),), ((0, 1), (2, 4)))
        self.assertEqual(used_by(bill, 2), [(0, 5), (1, 1), (3, 20), (4, 4)])

    def test_the_quantities_of_several_parts_are_summed(self):
        bill = uses(((1, 2), (2, 1), (1, 3)), (), ((1, 20), (1, 20), (1, 20), (1, 20)))
        self.assertEqual(used_by(bill, 1), [(0, 5), (2, 80)])
        self.assertEqual(used_by(bill, 2), [(0, 1)])

    def test_parts_of_parts_are_not_used(self):
        bill = uses(((1, 2),), ((2, 3),), ())
        self.assertEqual([used_by(bill, item) for item in range(3)], [[], [(0, 2)], [(1, 3)]])

    def test_made_up_bills(self):
        for bill, _ in made_up(200, "uses"):
            for item in range(len(bill)):
                found = {}
                for user, row in enumerate(bill):
                    for part, quantity in row[1]:
                        if part == item:
                            found[user] = found.get(user, 0) + quantity
                with self.subTest(bill=bill, item=item):
                    self.assertEqual(used_by(bill, item), sorted(found.items()))


class ParentsFirst(unittest.TestCase):
    def test_no_items_and_one(self):
        self.assertEqual(parents_first(()), ())
        self.assertEqual(parents_first(uses(())), (0,))

    def test_a_tuple(self):
        self.assertIs(type(parents_first(uses((), ()))), tuple)

    def test_the_least_number_is_not_the_first(self):
        self.assertEqual(parents_first(uses((), ((0, 1),))), (1, 0))
        self.assertEqual(parents_first(uses((), (), ((0, 1),))), (1, 2, 0))

    def test_several_that_are_free_at_once(self):
        self.assertEqual(parents_first(uses((), (), (), ())), (0, 1, 2, 3))
        self.assertEqual(parents_first(uses(((3, 1),), (), ((3, 1),), ())), (0, 1, 2, 3))

    def test_an_item_that_becomes_free_goes_ahead_of_greater_numbers(self):
        self.assertEqual(parents_first(uses((), ((0, 1),), (), ())), (1, 0, 2, 3))
        self.assertEqual(parents_first(uses((), ((2, 1),), ((0, 1),), ())), (1, 2, 0, 3))

    def test_an_item_waits_for_all_that_use_it(self):
        self.assertEqual(parents_first(uses((), ((0, 1),), ((1, 1),), ((0, 1),))), (2, 1, 3, 0))
        self.assertEqual(parents_first(uses(((1, 1),), (), ((1, 1),))), (0, 2, 1))

    def test_chains_in_both_directions(self):
        down = uses(*[((item + 1, 1),) for item in range(7)], ())
        up = uses((), *[((item, 1),) for item in range(7)])
        self.assertEqual(parents_first(down), (0, 1, 2, 3, 4, 5, 6, 7))
        self.assertEqual(parents_first(up), (7, 6, 5, 4, 3, 2, 1, 0))

    def test_eight_items(self):
        bill = uses((), ((0, 1), (4, 2)), ((0, 1), (0, 1)), ((1, 1),), (), ((7, 1),), ((5, 1), (3, 1)), ((4, 1),))
        self.assertEqual(parents_first(bill), (2, 6, 3, 1, 0, 5, 7, 4))

    def test_made_up_bills(self):
        for bill, _ in made_up(400, "parents"):
            with self.subTest(bill=bill):
                self.assertEqual(parents_first(bill), expected_order(bill))


class WholeLeads(unittest.TestCase):
    def leads(self, bill):
        return [whole_lead(bill, item) for item in range(len(bill))]

    def test_an_item_without_parts(self):
        for lead in (0, 1, 10):
            self.assertEqual(self.leads(bill_of(((), lead))), [lead])

    def test_several_levels(self):
        bill = bill_of((((1, 1),), 1), (((2, 1),), 2), (((3, 1),), 4), ((), 8))
        self.assertEqual(self.leads(bill), [15, 14, 12, 8])
        self.assertEqual(self.leads(bill_of(((), 8), (((0, 1),), 4), (((1, 1),), 2))), [8, 12, 14])

    def test_leads_of_0(self):
        bill = bill_of((((1, 1),), 0), (((2, 1),), 3), (((3, 1),), 0), ((), 0))
        self.assertEqual(self.leads(bill), [3, 3, 0, 0])

    def test_parts_of_unlike_whole_leads(self):
        bill = bill_of((((1, 1), (2, 1), (3, 1)), 1), ((), 5), (((1, 1),), 2), ((), 6))
        self.assertEqual(self.leads(bill), [8, 5, 7, 6])
        bill = bill_of((((3, 1), (1, 1), (2, 1)), 10), ((), 2), ((), 1), ((), 0))
        self.assertEqual(self.leads(bill), [12, 2, 1, 0])

    def test_quantities_and_repeated_parts_do_not_matter(self):
        bill = bill_of((((1, 20), (1, 3), (2, 1)), 1), ((), 2), ((), 1))
        self.assertEqual(self.leads(bill), [3, 2, 1])

    def test_eight_levels_with_four_parts_each(self):
        bill = bill_of(*[(((item + 1, 1),) * 4, 10) for item in range(7)], ((), 10))
        self.assertEqual(self.leads(bill), [80, 70, 60, 50, 40, 30, 20, 10])

    def test_made_up_bills(self):
        for bill, _ in made_up(200, "leads"):
            for item in range(len(bill)):
                with self.subTest(bill=bill, item=item):
                    self.assertEqual(whole_lead(bill, item), max(sum(bill[other][2] for other in chain)
                                                                 for chain in chains(bill, item)))


if __name__ == "__main__":
    unittest.main()
