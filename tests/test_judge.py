"""[p1], [p2], [p4] and [p5]: which facts follow, which papers are right, and what the judge tells."""

import ast
import pathlib
import random
import unittest

import latestart.judge
from latestart.balances import works
from latestart.bills import read_bill
from latestart.judge import first_wrong, follows, judge, shows_none
from latestart.latest import can_work, latest_plan
from latestart.papers import paper_of

from tests.by_days import LOW, lots_by_days
from tests.made_up import made_small, made_up

EXAMPLE = read_bill("wheel: ; 3 days; 4 yields 4\nbicycle: 2 wheel; 2 days; 1 yields 1")
BOOKS = (0, (3, 0), (), ((1, 1, 2, 6),))
PLAN = ((0, 1, 1), (1, 4, 2))
PAPER = [(1, 4, 2), (0, 1, 1)]


def follows_again(bill, books, facts, fact):
    """[p1], taken word by word."""
    item, day, lots = fact
    _, stock, receipts, orders = books
    end = day + bill[item][2]
    together = 0
    for _, other, quantity, when in orders:
        if other == item and when <= end:
            together += quantity
    for user, (_, parts, _, lot, _) in enumerate(bill):
        greatest = 0
        for other, when, many in facts:
            if other == user and when <= end and many > greatest:
                greatest = many
        for part, quantity in parts:
            if part == item:
                together += quantity * lot * greatest
    here = stock[item]
    for other, when, quantity in receipts:
        if other == item and when <= end:
            here += quantity
    return together > here + (lots - 1) * bill[item][4]


def first_wrong_again(bill, books, paper):
    for at, fact in enumerate(paper):
        if not follows_again(bill, books, paper[:at], fact):
            return at
    return None


def altered(chance, bill, books, paper):
    """A paper with one thing left out, doubled, changed, moved ahead or put in."""
    paper = list(paper)
    deed = chance.choice(("out", "double", "lots", "day", "item", "ahead", "in"))
    if deed == "in" or not paper:
        paper.insert(chance.randint(0, len(paper)), made_fact(chance, bill, books))
        return paper
    at = chance.randrange(len(paper))
    item, day, lots = paper[at]
    if deed == "out":
        del paper[at]
    elif deed == "double":
        paper.insert(chance.randint(0, len(paper)), paper[at])
    elif deed == "lots":
        paper[at] = (item, day, max(1, lots + chance.choice((-1, 1))))
    elif deed == "day":
        paper[at] = (item, day + chance.choice((-1, 1)), lots)
    elif deed == "item":
        paper[at] = (chance.randrange(len(bill)), day, lots)
    else:
        paper.insert(chance.randint(0, at), paper.pop(at))
    return paper


def made_fact(chance, bill, books):
    return chance.randrange(len(bill)), books[0] + chance.randint(-6, 15), chance.choice((1, 1, 2, 3, 9))


class FollowsFromOrders(unittest.TestCase):
    """Facts about an item that no other uses."""

    BILL = (("a", (), 2, 5, 3),)

    def most(self, books, day, facts=()):
        """The most lots that follow for a day; 0 if no fact does."""
        found = [follows(self.BILL, books, list(facts), (0, day, lots)) for lots in range(1, 12)]
        self.assertEqual(found, sorted(found, reverse=True))
        return sum(found)

    def test_just_so_many_lots_and_one_more(self):
        for ordered, lots in ((1, 1), (3, 1), (4, 2), (6, 2), (7, 3), (9, 3), (10, 4)):
            self.assertEqual(self.most((0, (0,), (), ((1, 0, ordered, 9),)), 7), lots)

    def test_the_stock_covers_what_it_has(self):
        for stock, lots in ((0, 3), (1, 2), (3, 2), (4, 1), (6, 1), (7, 0), (8, 0)):
            self.assertEqual(self.most((0, (stock,), (), ((1, 0, 7, 9),)), 7), lots)

    def test_orders_up_to_the_lead_behind_the_day(self):
        books = (0, (0,), (), ((1, 0, 3, 9), (2, 0, 3, 10), (3, 0, 3, 30)))
        self.assertEqual([self.most(books, day) for day in (6, 7, 8, 9, 27, 28, 29)], [0, 1, 2, 2, 2, 3, 3])

    def test_receipts_up_to_the_lead_behind_the_day(self):
        books = (0, (0,), ((0, 11, 3), (0, 12, 3)), ((1, 0, 9, 9),))
        self.assertEqual([self.most(books, day) for day in (6, 7, 8, 9, 10, 11)], [0, 3, 3, 2, 1, 1])

    def test_several_orders_and_receipts_are_summed(self):
        books = (0, (2,), ((0, 3, 1), (0, 9, 4), (0, 1, 2)), ((1, 0, 5, 9), (2, 0, 8, 4), (3, 0, 1, 9)))
        self.assertEqual(self.most(books, 7), 2)

    def test_orders_and_receipts_of_other_items_do_not_count(self):
        bill = (*self.BILL, ("b", (), 0, 1, 1))
        books = (0, (0, 0), ((1, 3, 9),), ((1, 0, 3, 9), (2, 1, 50, 4)))
        self.assertIs(follows(bill, books, [], (0, 7, 1)), True)
        self.assertIs(follows(bill, books, [], (0, 7, 2)), False)

    def test_days_before_today_and_below_0(self):
        books = (1, (1,), ((0, 1, 9),), ((1, 0, 12, 1),))
        # Behind a day before -1 nothing is ordered; from -1 on both the order and the receipt count.
        self.assertEqual([self.most(books, day) for day in (-10, -3, -2, -1, 0, 1)], [0, 0, 0, 1, 1, 1])
        self.assertEqual(self.most((50, (0,), (), ((1, 0, 3, 51),)), 49), 1)
        self.assertEqual(self.most((50, (0,), (), ((1, 0, 3, 51),)), 48), 0)

    def test_facts_about_the_item_itself_do_not_count(self):
        books = (0, (0,), (), ((1, 0, 3, 9),))
        self.assertEqual(self.most(books, 7, [(0, 7, 1), (0, 1, 9)]), 1)
        self.assertEqual(self.most((0, (0,), (), ()), 7, [(0, 7, 1), (0, 1, 9)]), 0)

    def test_nothing_is_ordered(self):
        for day in (-5, 0, 7, 200):
            self.assertEqual(self.most((0, (0,), (), ()), day), 0)
            self.assertEqual(self.most((0, (5,), ((0, 3, 1),), ()), day), 0)


class FollowsFromFacts(unittest.TestCase):
    """Facts about an item that others use."""

    BILL = read_bill("a: ; 2 days; 1 yields 1\nb: 3 a; 1 days; 4 yields 1\nc: 2 a, d, 5 a; 1 days; 1 yields 1\n"
                     "d: ; 0 days; 1 yields 1")
    NOTHING = (0, (0, 0, 0, 0), (), ())

    def most(self, facts, day, books=NOTHING, item=0):
        found = [follows(self.BILL, books, facts, (item, day, lots)) for lots in range(1, 200)]
        self.assertEqual(found, sorted(found, reverse=True))
        return sum(found)

    def test_a_lot_takes_the_lot_times_the_quantity(self):
        self.assertEqual(self.most([(1, 9, 1)], 7), 12)
        self.assertEqual(self.most([(1, 9, 2)], 7), 24)

    def test_the_quantities_of_several_parts_are_summed(self):
        self.assertEqual(self.most([(2, 9, 2)], 7), 14)
        self.assertEqual(self.most([(2, 9, 2)], 9, item=3), 2)

    def test_a_fact_of_a_day_up_to_the_lead_behind_the_day_and_one_of_a_later_day(self):
        for day in (-4, 0, 8, 9):
            self.assertEqual(self.most([(1, day, 1)], 7), 12)
        for day in (10, 11, 200):
            self.assertEqual(self.most([(1, day, 1)], 7), 0)

    def test_the_greatest_of_several_counts(self):
        for facts in ([(1, 5, 2), (1, 9, 3), (1, 1, 1)], [(1, 9, 3), (1, 5, 2)], [(1, 5, 3), (1, 9, 1)],
                      [(1, 5, 3), (1, 10, 7), (1, 9, 2)]):
            self.assertEqual(self.most(facts, 7), 36)

    def test_the_facts_of_several_items_that_use_it_are_summed(self):
        self.assertEqual(self.most([(1, 9, 1), (2, 3, 2), (1, 2, 1), (2, 9, 1)], 7), 26)

    def test_facts_of_items_that_do_not_use_it_do_not_count(self):
        self.assertEqual(self.most([(3, 1, 9), (0, 1, 50), (1, 1, 9)], 7, item=3), 0)
        self.assertEqual(self.most([(3, 1, 9), (0, 1, 50)], 7), 0)

    def test_with_orders_stock_and_receipts(self):
        books = (0, (5, 0, 0, 0), ((0, 9, 4), (0, 10, 100)), ((1, 0, 6, 9), (2, 0, 300, 10), (3, 1, 40, 1)))
        self.assertEqual(self.most([(1, 9, 1), (2, 9, 1)], 7, books), 6 + 12 + 7 - 5 - 4)

    def test_before_today_the_stock_is_supplied(self):
        books = (9, (5, 0, 0, 0), ((0, 9, 4),), ())
        self.assertEqual(self.most([(1, 6, 1)], 6, books), 7)
        self.assertEqual(self.most([(1, 6, 1)], 7, books), 3)
        self.assertEqual(self.most([(1, -6, 1)], -8, books), 7)

    def test_no_facts_and_no_orders(self):
        self.assertEqual(self.most([], 7), 0)

    def test_true_and_false(self):
        self.assertIs(follows(self.BILL, self.NOTHING, [(2, 9, 1)], (0, 7, 7)), True)
        self.assertIs(follows(self.BILL, self.NOTHING, [(2, 9, 1)], (0, 7, 8)), False)

    def test_made_up_facts(self):
        chance = random.Random("facts")
        found = {True: 0, False: 0}
        for bill, books in made_small(400, "facts"):
            facts = [made_fact(chance, bill, books) for _ in range(chance.randint(0, 6))] + paper_of(bill, books)[:3]
            for _ in range(5):
                fact = made_fact(chance, bill, books)
                expected = follows_again(bill, books, facts, fact)
                found[expected] += 1
                with self.subTest(bill=bill, books=books, facts=facts, fact=fact):
                    self.assertIs(follows(bill, books, facts, fact), expected)
        self.assertGreater(min(found.values()), 200)


class FirstWrong(unittest.TestCase):
    def expect(self, paper, at, books=BOOKS):
        with self.subTest(paper=paper):
            self.assertEqual(first_wrong(EXAMPLE, books, paper), at)

    def test_the_programs_papers_and_the_empty_one(self):
        self.expect(PAPER, None)
        self.expect([], None)
        for bill, books in [*made_up(150, "right papers"), *made_small(150, "right papers")]:
            with self.subTest(bill=bill, books=books):
                self.assertIsNone(first_wrong(bill, books, paper_of(bill, books)))
                self.assertIsNone(first_wrong(bill, books, []))

    def test_a_fact_left_out(self):
        self.expect([(0, 1, 1)], 0)
        self.expect([(1, 4, 2)], None)

    def test_a_fact_doubled(self):
        self.expect([(1, 4, 2), (1, 4, 2), (0, 1, 1)], None)
        self.expect([(1, 4, 2), (0, 1, 1), (0, 1, 1), (1, 4, 2)], None)

    def test_a_fact_changed(self):
        for fact, at in (((1, 4, 3), 0), ((1, 3, 2), 0), ((0, 4, 2), 0), ((1, 4, 1), 1), ((1, 5, 2), 1)):
            self.expect([fact, (0, 1, 1)], at)
        for fact in ((0, 1, 2), (0, 0, 1), (1, 1, 1), (0, -200, 1)):
            self.expect([(1, 4, 2), fact], 1)
        for fact in ((0, 2, 1), (0, 200, 1), (1, 4, 1), (1, 5, 2)):
            self.expect([(1, 4, 2), fact], None)

    def test_a_fact_moved_ahead(self):
        self.expect([(0, 1, 1), (1, 4, 2)], 0)

    def test_a_fact_put_in(self):
        self.expect([(1, 9, 1), (1, 4, 2), (0, 1, 1)], None)
        self.expect([(1, 4, 2), (0, 0, 1), (0, 1, 1)], 1)
        self.expect([(1, 4, 2), (0, 1, 1), (1, 4, 3)], 2)

    def test_the_first_of_several(self):
        self.expect([(1, 4, 2), (1, 3, 1), (1, 4, 3), (0, 1, 2)], 1)

    def test_a_fact_that_follows_from_a_wrong_one(self):
        self.expect([(1, 3, 2), (0, 0, 1)], 0)

    def test_altered_papers(self):
        chance = random.Random("altered")
        found = {}
        for bill, books in made_small(600, "altered"):
            paper = altered(chance, bill, books, paper_of(bill, books))
            expected = first_wrong_again(bill, books, paper)
            found[expected] = found.get(expected, 0) + 1
            with self.subTest(bill=bill, books=books, paper=paper):
                self.assertEqual(first_wrong(bill, books, paper), expected)
        self.assertGreater(min(found[at] for at in (None, 0, 1, 2)), 20)

    def test_what_right_papers_say_is_needed(self):
        chance = random.Random("true")
        right = 0
        for bill, books in made_small(300, "true"):
            lots = lots_by_days(bill, books)
            for _ in range(6):
                paper = []
                for fact in [made_fact(chance, bill, books) for _ in range(8)] + paper_of(bill, books):
                    if chance.random() < 0.7 and follows(bill, books, paper, fact):
                        paper.append(fact)
                right += len(paper)
                with self.subTest(bill=bill, books=books, paper=paper):
                    self.assertIsNone(first_wrong(bill, books, paper))
                    self.assertEqual([(item, day, many) for item, day, many in paper if lots[item][day] < many], [])
        self.assertGreater(right, 1000)

    def test_what_is_needed_follows_from_the_programs_paper(self):
        for bill, books in made_small(80, "needed"):
            paper = paper_of(bill, books)
            for item, lots in enumerate(lots_by_days(bill, books)):
                for day in range(LOW + 20, 210):
                    with self.subTest(bill=bill, books=books, item=item, day=day):
                        # More than is needed does not follow, whatever else is right.
                        self.assertIs(follows(bill, books, paper, (item, day, lots[day] + 1)), False)
                        if lots[day] > lots[day - 1]:
                            self.assertIs(follows(bill, books, paper, (item, day, lots[day])), True)


class ShowsNone(unittest.TestCase):
    LATE = (2, (3, 0), (), ((1, 1, 2, 6),))

    def test_a_right_paper_with_a_fact_before_today(self):
        self.assertIs(shows_none(EXAMPLE, self.LATE, PAPER), True)
        self.assertIs(shows_none(EXAMPLE, self.LATE, [*PAPER, (1, 4, 1), (0, 6, 1)]), True)
        self.assertIs(shows_none(EXAMPLE, (0, (0, 0), (), ((1, 1, 1, 1),)), [(1, -1, 1)]), True)

    def test_a_right_paper_without_one(self):
        self.assertIs(shows_none(EXAMPLE, BOOKS, PAPER), False)
        self.assertIs(shows_none(EXAMPLE, BOOKS, []), False)
        self.assertIs(shows_none(EXAMPLE, self.LATE, [(1, 4, 2)]), False)
        self.assertIs(shows_none(EXAMPLE, self.LATE, [(1, 4, 2), (0, 2, 1)]), False)

    def test_today_itself_is_not_before_today(self):
        self.assertIs(shows_none(EXAMPLE, (1, *self.LATE[1:]), PAPER), False)

    def test_a_wrong_paper_with_one(self):
        self.assertIs(shows_none(EXAMPLE, self.LATE, [(0, 1, 1)]), False)
        self.assertIs(shows_none(EXAMPLE, self.LATE, [(0, 1, 1), (1, 4, 2)]), False)
        self.assertIs(shows_none(EXAMPLE, self.LATE, [*PAPER, (1, 4, 3)]), False)
        self.assertIs(shows_none(EXAMPLE, BOOKS, [*PAPER, (0, -1, 1)]), False)

    def test_a_wrong_paper_without_one(self):
        self.assertIs(shows_none(EXAMPLE, BOOKS, [(0, 1, 1)]), False)

    def test_the_programs_papers(self):
        found = {True: 0, False: 0}
        for bill, books in [*made_up(150, "shows"), *made_small(250, "shows")]:
            expected = not can_work(bill, books)
            found[expected] += 1
            with self.subTest(bill=bill, books=books):
                self.assertIs(shows_none(bill, books, paper_of(bill, books)), expected)
        self.assertGreater(min(found.values()), 50)

    def test_no_paper_shows_it_where_a_plan_works(self):
        chance = random.Random("no paper")
        for bill, books in made_small(300, "no paper"):
            if can_work(bill, books):
                for _ in range(4):
                    paper = altered(chance, bill, books, altered(chance, bill, books, paper_of(bill, books)))
                    with self.subTest(bill=bill, books=books, paper=paper):
                        self.assertIs(shows_none(bill, books, paper), False)


class Judge(unittest.TestCase):
    def expect(self, plan, paper, told, books=BOOKS):
        with self.subTest(plan=plan, paper=paper):
            self.assertEqual(judge(EXAMPLE, books, plan, paper), told)

    def test_nothing_is_wrong(self):
        self.expect(PLAN, PAPER, None)
        self.expect(PLAN, [(1, 9, 1), *PAPER, (0, 7, 1)], None)
        self.expect((), [], None, (5, (0, 2), (), ((1, 1, 2, 5),)))
        self.assertIsNone(judge((), (0, (), (), ()), (), []))

    def test_the_example_of_the_interface(self):
        self.expect(((0, 1, 1), (1, 3, 1), (1, 4, 1)), PAPER, ("early", 1))

    def test_short(self):
        self.expect((), PAPER, ("short", 6, 1))
        self.expect(((0, 1, 1),), PAPER, ("short", 6, 1))
        self.expect(((1, 4, 2),), PAPER, ("short", 4, 0))
        self.expect(((0, 2, 1), (1, 4, 2)), PAPER, ("short", 4, 0))

    def test_the_first_shortage(self):
        books = (0, (0, 0), (), ((1, 1, 1, 3), (2, 0, 4, 3), (3, 0, 1, 5)))
        self.expect((), [], ("short", 3, 0), books)
        self.expect(((0, 0, 1),), [], ("short", 3, 1), books)
        self.expect(((0, 0, 2),), [], ("short", 3, 1), books)
        self.expect(((0, 0, 1), (1, 1, 1)), [], ("short", 1, 0), books)

    def test_short_ahead_of_fact_and_early(self):
        self.expect(((0, 0, 1), (1, 4, 1)), PAPER, ("short", 6, 1))
        self.expect(((0, 0, 1), (1, 4, 1)), [(0, 1, 1)], ("short", 6, 1))
        self.expect(((1, 4, 2),), [(0, 1, 1)], ("short", 4, 0))

    def test_fact(self):
        self.expect(PLAN, [*PAPER, (0, 0, 1)], ("fact", 2))
        self.expect(PLAN, [(1, 4, 2), (0, 1, 2), (0, 1, 1)], ("fact", 1))

    def test_fact_ahead_of_early(self):
        self.expect(PLAN, [(0, 1, 1)], ("fact", 0))
        self.expect(((0, 1, 1), (1, 3, 1), (1, 4, 1)), [(1, 4, 2), (0, 0, 1), (0, 1, 1)], ("fact", 1))
        self.expect(((0, 0, 1), (1, 4, 2)), [(1, 4, 2), (0, 0, 1)], ("fact", 1))

    def test_early_without_facts(self):
        self.expect(PLAN, [], ("early", 0))
        self.expect(PLAN, [(1, 4, 2)], ("early", 0))
        self.expect(PLAN, [(1, 4, 1), (1, 4, 2)], ("early", 0))

    def test_a_start_earlier_than_the_latest(self):
        self.expect(((0, 0, 1), (1, 4, 2)), PAPER, ("early", 0))
        self.expect(((0, 1, 1), (1, 3, 2)), [*PAPER, (1, 4, 1)], ("short", 3, 0))
        self.expect(((0, 0, 1), (1, 3, 2)), PAPER, ("early", 0))

    def test_more_lots_than_needed(self):
        self.expect(((0, 1, 2), (1, 4, 2)), PAPER, ("early", 0))
        self.expect(((0, 1, 1), (1, 4, 3)), PAPER, ("early", 1))
        self.expect(((0, 1, 1), (0, 9, 1), (1, 4, 2)), PAPER, ("early", 1))
        self.expect(((0, 1, 1), (1, 4, 2), (1, 9, 1)), PAPER, ("early", 2))

    def test_a_weaker_fact_does_not_show_a_start(self):
        self.expect(PLAN, [(1, 4, 2), (0, 2, 1)], ("early", 0))
        books = (0, (9, 0), (), ((1, 1, 2, 6),))
        self.expect(((1, 4, 2),), [(1, 5, 2), (1, 4, 1)], ("early", 0), books)
        self.expect(((1, 4, 2),), [(1, 4, 1), (1, 4, 2)], None, books)
        # A fact about the other item with this day and these lots.
        self.expect(((0, 4, 2), (1, 4, 2)), [(1, 4, 2)], ("early", 0), (0, (4, 0), (), ((1, 0, 8, 7), (2, 1, 2, 6))))

    def test_lots_of_all_starts_up_to_the_day_count(self):
        books = (0, (9, 0), (), ((1, 1, 1, 6), (2, 1, 1, 8)))
        self.expect(((1, 4, 1), (1, 6, 1)), [(1, 4, 1), (1, 6, 2)], None, books)
        self.expect(((1, 4, 1), (1, 6, 1)), [(1, 4, 1), (1, 6, 1)], ("early", 1), books)
        self.expect(((1, 4, 1), (1, 6, 1)), [(1, 6, 2)], ("early", 0), books)

    def test_it_lets_by_the_latest_plan_alone(self):
        working = refused = 0
        chance = random.Random("lets by")
        for bill, books in made_small(300, "lets by"):
            if not can_work(bill, books):
                continue
            latest = latest_plan(bill, books)
            paper = paper_of(bill, books)
            working += 1
            with self.subTest(bill=bill, books=books):
                self.assertIsNone(judge(bill, books, latest, paper))
            for _ in range(6):
                plan = other_plan(chance, bill, books, latest)
                if plan != latest:
                    told = judge(bill, books, plan, paper)
                    with self.subTest(bill=bill, books=books, plan=plan):
                        self.assertEqual(told[0], "early" if works(bill, books, plan) else "short")
                    refused += told[0] == "early"
        self.assertGreater(working, 100)
        self.assertGreater(refused, 100)

    def test_it_does_not_plan(self):
        tree = ast.parse(pathlib.Path(latestart.judge.__file__).read_text(encoding="utf-8"))
        imported = [node.module for node in ast.walk(tree) if isinstance(node, ast.ImportFrom)]
        for module in ("needs", "latest", "papers"):
            self.assertNotIn(f"latestart.{module}", imported)


def other_plan(chance, bill, books, plan):
    """A plan that starts more, or something earlier or later, than this one."""
    lots = {(item, day): many for item, day, many in plan}
    for _ in range(chance.choice((1, 1, 2))):
        place = (chance.randrange(len(bill)), books[0] + chance.randint(0, 15))
        lots[place] = lots.get(place, 0) + chance.choice((1, 1, 5))
        if plan and chance.random() < 0.5:
            item, day, _ = chance.choice(plan)
            lots[item, day] -= 1
            other = max(books[0], day + chance.choice((-2, -1, 1)))
            lots[item, other] = lots.get((item, other), 0) + 1
    return tuple((*place, lots[place]) for place in sorted(lots) if lots[place] > 0)


if __name__ == "__main__":
    unittest.main()
