"""[g1] to [g4]: sources, takings and pegs; which orders a start serves, and on which receipts an order rests."""

import itertools
import random
import unittest

from latestart.balances import balance, works
from latestart.bills import read_bill
from latestart.errors import NoPlan, NoSuchOrder
from latestart.latest import can_work, latest_plan
from latestart.pegging import pegs, rests_on, served, sources, takings

from tests.made_up import made_small, made_up, made_up_plans
from tests.test_judge import other_plan

EXAMPLE = read_bill("wheel: ; 3 days; 4 yields 4\nbicycle: 2 wheel; 2 days; 1 yields 1")
BOOKS = (0, (3, 0), (), ((1, 1, 1, 4), (2, 1, 1, 6)))
PLAN = ((0, 1, 1), (1, 2, 1), (1, 4, 1))

# Two items that use one, and one that uses these two.
LEVELS = read_bill("nut: ; 1 days; 5 yields 4\nbolt: 2 nut; 0 days; 3 yields 2\n"
                   "plate: nut, bolt, nut; 2 days; 1 yields 1\nshelf: bolt, 2 plate; 1 days; 1 yields 1")


def pieces_one_by_one(bill, books, plan, item):
    """The pegs of an item, made of the pieces of its sources and of its takings, laid out one by one."""
    given = [source for _, source, pieces in sources(bill, books, plan, item) for _ in range(pieces)]
    taken = [taking for _, taking, pieces in takings(bill, books, plan, item) for _ in range(pieces)]
    return [(*pair, len(list(same))) for pair, same in itertools.groupby(zip(taken, given))]


def serves(bill, books, plan, item, day, number):
    """[g4], taken word by word: whether a start serves an order."""
    for taking, source, _ in pegs(bill, books, plan, item):
        if source == ("start", day):
            if taking == ("order", number):
                return True
            if taking[0] == "start" and serves(bill, books, plan, taking[1], taking[2], number):
                return True
    return False


def rests(bill, books, plan, number, k):
    """[g4], taken word by word: whether an order rests on a receipt."""
    for taking, source, _ in pegs(bill, books, plan, books[2][k][0]):
        if source == ("receipt", k):
            if taking == ("order", number):
                return True
            if taking[0] == "start" and serves(bill, books, plan, taking[1], taking[2], number):
                return True
    return False


def working(many, seed):
    """Yields bills and books with plans that work: the latest ones, and others."""
    chance = random.Random(seed)
    for bill, books in [*made_small(many, seed), *made_up(many // 4, seed)]:
        if bill and can_work(bill, books):
            latest = latest_plan(bill, books)
            for plan in [latest] + [other_plan(chance, bill, books, latest) for _ in range(2)]:
                if works(bill, books, plan):
                    yield bill, books, plan


class Sources(unittest.TestCase):
    def test_each_kind(self):
        books = (2, (3, 0), ((1, 5, 2), (0, 4, 7)), ())
        self.assertEqual(sources(EXAMPLE, books, ((0, 3, 2), (1, 4, 1)), 0), [
            (2, ("stock",), 3), (4, ("receipt", 1), 7), (6, ("start", 3), 8)])
        self.assertEqual(sources(EXAMPLE, books, ((0, 3, 2), (1, 4, 1)), 1), [
            (5, ("receipt", 0), 2), (6, ("start", 4), 1)])

    def test_the_index_among_all_receipts(self):
        books = (0, (0, 0), ((1, 1, 2), (1, 2, 3), (0, 3, 4), (1, 4, 5), (0, 5, 6)), ())
        self.assertEqual(sources(EXAMPLE, books, (), 0), [(3, ("receipt", 2), 4), (5, ("receipt", 4), 6)])

    def test_by_days_and_not_by_kinds_or_indexes(self):
        books = (0, (1, 0), ((0, 9, 2), (0, 3, 4), (0, 6, 5)), ())
        self.assertEqual(sources(EXAMPLE, books, ((0, 2, 1), (0, 4, 3)), 0), [
            (0, ("stock",), 1), (3, ("receipt", 1), 4), (5, ("start", 2), 4), (6, ("receipt", 2), 5),
            (7, ("start", 4), 12), (9, ("receipt", 0), 2)])

    def test_on_one_day_stock_receipts_by_index_and_starts(self):
        bill = read_bill("a: ; 0 days; 3 yields 2")
        books = (4, (1,), ((0, 6, 1), (0, 4, 2), (0, 6, 3), (0, 4, 4)), ())
        self.assertEqual(sources(bill, books, ((0, 4, 1), (0, 6, 2)), 0), [
            (4, ("stock",), 1), (4, ("receipt", 1), 2), (4, ("receipt", 3), 4), (4, ("start", 4), 2),
            (6, ("receipt", 0), 1), (6, ("receipt", 2), 3), (6, ("start", 6), 4)])

    def test_the_stock_is_there_today(self):
        for today in (0, 7, 200):
            self.assertEqual(sources(EXAMPLE, (today, (3, 0), (), ()), (), 0), [(today, ("stock",), 3)])

    def test_a_source_without_pieces_is_left_out(self):
        self.assertEqual(sources(EXAMPLE, (0, (0, 0), (), ()), (), 0), [])
        self.assertEqual(sources(EXAMPLE, (0, (0, 0), ((0, 1, 1),), ()), (), 0), [(1, ("receipt", 0), 1)])

    def test_a_yield_that_is_there_behind_the_day_200(self):
        self.assertEqual(sources(EXAMPLE, (0, (0, 0), (), ()), ((0, 200, 1),), 0), [(203, ("start", 200), 4)])

    def test_the_yield_and_not_the_lot(self):
        self.assertEqual(sources(LEVELS, (0, (0,) * 4, (), ()), ((0, 3, 6),), 0), [(4, ("start", 3), 24)])


class Takings(unittest.TestCase):
    def test_each_kind(self):
        self.assertEqual(takings(EXAMPLE, BOOKS, PLAN, 1), [(4, ("order", 1), 1), (6, ("order", 2), 1)])
        self.assertEqual(takings(EXAMPLE, BOOKS, PLAN, 0), [(2, ("start", 1, 2), 2), (4, ("start", 1, 4), 2)])

    def test_by_days_and_not_by_numbers_or_kinds(self):
        books = (0, (50, 0), (), ((3, 0, 1, 9), (5, 0, 2, 4), (7, 0, 3, 6)))
        self.assertEqual(takings(EXAMPLE, books, ((1, 3, 1), (1, 5, 2), (1, 9, 1)), 0), [
            (3, ("start", 1, 3), 2), (4, ("order", 5), 2), (5, ("start", 1, 5), 4), (6, ("order", 7), 3),
            (9, ("order", 3), 1), (9, ("start", 1, 9), 2)])

    def test_on_one_day_orders_by_number_then_starts_by_item(self):
        bill = read_bill("c: b; 9 days; 1 yields 1\nb: ; 1 days; 1 yields 1\na: 2 b; 1 days; 1 yields 1\n"
                         "d: b, 3 b; 1 days; 10 yields 1")
        books = (0, (0, 500, 0, 0), (), ((2, 1, 8, 4), (30, 1, 9, 4), (40, 0, 1, 200)))
        plan = ((0, 4, 1), (2, 4, 3), (3, 4, 2))
        self.assertEqual(takings(bill, books, plan, 1), [
            (4, ("order", 2), 8), (4, ("order", 30), 9), (4, ("start", 0, 4), 1), (4, ("start", 2, 4), 6),
            (4, ("start", 3, 4), 80)])

    def test_orders_and_starts_of_others_are_none(self):
        self.assertEqual(takings(EXAMPLE, (0, (9, 9), (), ((1, 1, 3, 3),)), ((0, 3, 2),), 0), [])
        self.assertEqual(takings(EXAMPLE, (0, (9, 9), (), ((1, 0, 3, 3),)), ((0, 3, 2),), 1), [])


class Pegs(unittest.TestCase):
    def test_the_example_of_the_interface(self):
        self.assertEqual(latest_plan(EXAMPLE, BOOKS), PLAN)
        self.assertEqual(pegs(EXAMPLE, BOOKS, PLAN, 0), [
            (("start", 1, 2), ("stock",), 2), (("start", 1, 4), ("stock",), 1), (("start", 1, 4), ("start", 1), 1)])
        self.assertEqual(pegs(EXAMPLE, BOOKS, PLAN, 1), [
            (("order", 1), ("start", 2), 1), (("order", 2), ("start", 4), 1)])

    def test_a_taking_from_several_sources(self):
        books = (0, (2, 0), ((0, 1, 3), (0, 4, 9)), ((6, 0, 10, 5),))
        self.assertEqual(pegs(EXAMPLE, books, ((0, 0, 1),), 0), [
            (("order", 6), ("stock",), 2), (("order", 6), ("receipt", 0), 3), (("order", 6), ("start", 0), 4),
            (("order", 6), ("receipt", 1), 1)])

    def test_a_source_for_several_takings(self):
        books = (0, (20, 0), (), ((1, 0, 3, 5), (2, 0, 4, 5), (3, 0, 5, 2)))
        self.assertEqual(pegs(EXAMPLE, books, ((1, 1, 1),), 0), [
            (("start", 1, 1), ("stock",), 2), (("order", 3), ("stock",), 5), (("order", 1), ("stock",), 3),
            (("order", 2), ("stock",), 4)])

    def test_a_source_that_a_taking_uses_up(self):
        books = (0, (3, 0), ((0, 1, 4), (0, 2, 1)), ((1, 0, 3, 5), (2, 0, 4, 5), (3, 0, 1, 5)))
        self.assertEqual(pegs(EXAMPLE, books, (), 0), [
            (("order", 1), ("stock",), 3), (("order", 2), ("receipt", 0), 4), (("order", 3), ("receipt", 1), 1)])

    def test_pieces_that_are_left_over(self):
        self.assertEqual(pegs(EXAMPLE, (0, (9, 0), (), ()), ((0, 3, 1),), 0), [])
        books = (0, (9, 0), ((0, 1, 1),), ((1, 0, 8, 5),))
        self.assertEqual(pegs(EXAMPLE, books, (), 0), [(("order", 1), ("stock",), 8)])

    def test_a_lead_of_0(self):
        bill = read_bill("a: ; 0 days; 2 yields 2\nb: 3 a; 0 days; 1 yields 1")
        books = (1, (0, 0), (), ((1, 1, 2, 1), (2, 0, 1, 1)))
        plan = ((0, 1, 4), (1, 1, 2))
        self.assertEqual(pegs(bill, books, plan, 0), [
            (("order", 2), ("start", 1), 1), (("start", 1, 1), ("start", 1), 6)])
        self.assertEqual(pegs(bill, books, plan, 1), [(("order", 1), ("start", 1), 2)])

    def test_no_takings_and_no_sources(self):
        self.assertEqual(pegs(EXAMPLE, (0, (0, 0), (), ()), (), 0), [])

    def test_made_up_plans(self):
        found = several = 0
        for bill, books, plan in working(250, "pegs"):
            for item in range(len(bill)):
                rows = pegs(bill, books, plan, item)
                found += len(rows)
                several += len({row[0] for row in rows}) < len(rows)
                with self.subTest(bill=bill, books=books, plan=plan, item=item):
                    self.assertEqual(rows, pieces_one_by_one(bill, books, plan, item))
                    self.expect_all_pieces_in_time(bill, books, plan, item)
        self.assertGreater(found, 500)
        self.assertGreater(several, 50)

    def expect_all_pieces_in_time(self, bill, books, plan, item):
        here = sources(bill, books, plan, item)
        needed = takings(bill, books, plan, item)
        days = {source: day for day, source, _ in here}
        due = {taking: day for day, taking, _ in needed}
        got = {taking: 0 for taking in due}
        given = {source: 0 for source in days}
        for taking, source, pieces in pegs(bill, books, plan, item):
            self.assertGreaterEqual(pieces, 1)
            self.assertLessEqual(days[source], due[taking])
            got[taking] += pieces
            given[source] += pieces
        self.assertEqual(got, {taking: pieces for _, taking, pieces in needed})
        self.assertEqual([source for _, source, pieces in here if given[source] > pieces], [])

    def test_sources_less_takings_are_the_balance(self):
        for bill, books, plan in working(60, "balance"):
            for item in range(len(bill)):
                here = sources(bill, books, plan, item)
                gone = takings(bill, books, plan, item)
                for day in range(books[0], 212):
                    pieces = sum(row[2] for row in here if row[0] <= day) - sum(row[2] for row in gone if row[0] <= day)
                    with self.subTest(bill=bill, books=books, plan=plan, item=item, day=day):
                        self.assertEqual(pieces, balance(bill, books, plan, item, day))

    def test_made_up_orders_of_rows(self):
        kinds = ("stock", "receipt", "start")
        for bill, books, plan in working(100, "rows"):
            for item in range(len(bill)):
                rows = sources(bill, books, plan, item)
                needed = takings(bill, books, plan, item)
                with self.subTest(bill=bill, books=books, plan=plan, item=item):
                    self.assertEqual(rows, sorted(rows, key=lambda row: (row[0], kinds.index(row[1][0]), row[1][1:])))
                    self.assertEqual(needed, sorted(needed, key=lambda row: (row[0], row[1])))


class Served(unittest.TestCase):
    def test_the_example_of_the_interface(self):
        self.assertEqual(served(EXAMPLE, BOOKS, PLAN, 0, 1), [2])

    def test_directly(self):
        self.assertEqual(served(EXAMPLE, BOOKS, PLAN, 1, 2), [1])
        self.assertEqual(served(EXAMPLE, BOOKS, PLAN, 1, 4), [2])

    def test_several_orders_by_rising_numbers(self):
        books = (0, (0, 0), (), ((3, 0, 1, 9), (5, 0, 1, 4), (7, 0, 1, 6), (8, 0, 1, 9)))
        self.assertEqual(served(EXAMPLE, books, ((0, 0, 1),), 0, 0), [3, 5, 7, 8])
        # The order of the days is 5, 7, 3, 8.
        books = (*books[:3], ((3, 0, 2, 9), (5, 0, 1, 4), (7, 0, 2, 6), (8, 0, 1, 9)))
        plan = ((0, 0, 1), (0, 5, 1))
        self.assertEqual([served(EXAMPLE, books, plan, 0, day) for day in (0, 5)], [[3, 5, 7], [3, 8]])

    def test_by_several_starts(self):
        bill = read_bill("a: ; 1 days; 9 yields 9\nb: a; 1 days; 1 yields 1\nc: b; 1 days; 1 yields 1")
        books = (0, (0, 0, 0), (), ((4, 2, 1, 7), (6, 1, 1, 6), (9, 2, 1, 9)))
        plan = ((0, 3, 1), (1, 4, 1), (1, 5, 1), (1, 7, 1), (2, 6, 1), (2, 8, 1))
        self.assertEqual(served(bill, books, plan, 0, 3), [4, 6, 9])
        self.assertEqual([served(bill, books, plan, 1, day) for day in (4, 5, 7)], [[6], [4], [9]])

    def test_several_ways_to_one_order(self):
        books = (0, (0, 0, 0, 0), (), ((6, 3, 1, 9),))
        plan = latest_plan(LEVELS, books)
        for item, day, _ in plan:
            with self.subTest(item=item, day=day):
                self.assertEqual(served(LEVELS, books, plan, item, day), [6])

    def test_none(self):
        plan = (*PLAN, (1, 9, 1))
        self.assertEqual(served(EXAMPLE, (0, (9, 0), (), BOOKS[3]), plan, 0, 1), [])
        self.assertEqual(served(EXAMPLE, BOOKS, plan, 1, 9), [])

    def test_pieces_for_a_start_that_serves_none(self):
        books = (0, (0, 1), (), ((1, 1, 1, 9),))
        self.assertEqual(served(EXAMPLE, books, ((0, 0, 1), (1, 3, 1)), 0, 0), [])

    def test_a_start_that_is_not_in_the_plan(self):
        self.assertEqual(served(EXAMPLE, BOOKS, PLAN, 0, 2), [])

    def test_made_up_plans(self):
        several = 0
        for bill, books, plan in working(150, "served"):
            for item, day, _ in plan:
                expected = [order[0] for order in books[3] if serves(bill, books, plan, item, day, order[0])]
                several += len(expected) > 1
                with self.subTest(bill=bill, books=books, plan=plan, item=item, day=day):
                    self.assertEqual(served(bill, books, plan, item, day), expected)
        self.assertGreater(several, 50)


class RestsOn(unittest.TestCase):
    def test_directly(self):
        books = (0, (1, 0), ((0, 2, 3), (1, 2, 5), (0, 4, 9)), ((3, 0, 2, 3), (4, 0, 3, 4), (5, 1, 1, 5), (6, 0, 1, 0)))
        self.assertEqual([rests_on(EXAMPLE, books, (), number) for number in (3, 4, 5, 6)], [[0], [0, 2], [1], []])

    def test_by_starts(self):
        books = (0, (1, 0), ((0, 2, 3), (0, 1, 1), (0, 4, 9)), ((3, 1, 1, 4), (4, 1, 2, 8)))
        plan = ((1, 2, 1), (1, 3, 1), (1, 6, 1))
        self.assertEqual([rests_on(EXAMPLE, books, plan, number) for number in (3, 4)], [[1], [0, 2]])

    def test_by_starts_of_several_levels(self):
        bill = read_bill("a: ; 1 days; 9 yields 9\nb: a; 1 days; 1 yields 1\nc: b; 1 days; 1 yields 1")
        books = (0, (0, 0, 0), ((0, 0, 1), (1, 1, 1), (0, 1, 2)), ((4, 2, 2, 7), (6, 1, 1, 8), (9, 0, 1, 9)))
        plan = ((1, 5, 1), (1, 7, 1), (2, 6, 2))
        self.assertEqual([rests_on(bill, books, plan, number) for number in (4, 6, 9)], [[0, 1], [2], [2]])

    def test_rising_indexes_whatever_their_days(self):
        books = (0, (0, 0), ((0, 4, 1), (0, 2, 1), (0, 3, 1)), ((3, 0, 3, 9),))
        self.assertEqual(rests_on(EXAMPLE, books, (), 3), [0, 1, 2])

    def test_no_such_order(self):
        for number in (0, 3, 99):
            with self.assertRaises(NoSuchOrder) as context:
                rests_on(EXAMPLE, BOOKS, PLAN, number)
            self.assertEqual(context.exception.number, number)

    def test_made_up_plans(self):
        found = 0
        for bill, books, plan in working(200, "rests on"):
            for order in books[3]:
                expected = [k for k in range(len(books[2])) if rests(bill, books, plan, order[0], k)]
                found += len(expected)
                with self.subTest(bill=bill, books=books, plan=plan, order=order):
                    self.assertEqual(rests_on(bill, books, plan, order[0]), expected)
        self.assertGreater(found, 100)


class PlansThatDoNotWork(unittest.TestCase):
    def expect(self, bill, books, plan):
        item, day, number = 0, books[0], 77
        for function, rest in ((sources, (item,)), (takings, (item,)), (pegs, (item,)), (served, (item, day)),
                               (rests_on, (number,))):
            with self.subTest(function=function.__name__, bill=bill, books=books, plan=plan):
                with self.assertRaises(NoPlan):
                    function(bill, books, plan, *rest)

    def test_no_plan_ahead_of_no_such_order(self):
        self.expect(EXAMPLE, BOOKS, ())
        self.expect(EXAMPLE, BOOKS, PLAN[1:])
        self.expect(EXAMPLE, (0, (2, 0), (), BOOKS[3]), ((1, 2, 1), (1, 4, 1)))

    def test_the_shortage_is_of_another_item(self):
        self.expect(EXAMPLE, BOOKS, PLAN[:1])

    def test_an_order_that_there_is(self):
        with self.assertRaises(NoPlan):
            rests_on(EXAMPLE, BOOKS, (), 1)

    def test_made_up_plans(self):
        tried = 0
        for bill, books, plan in made_up_plans(200, "do not work"):
            if bill and not works(bill, books, plan):
                tried += 1
                self.expect(bill, books, plan)
        self.assertGreater(tried, 80)


if __name__ == "__main__":
    unittest.main()
