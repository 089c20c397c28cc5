"""[0]: what the document promises over the whole program."""

import random
import unittest

from latestart.alike import are_alike, parting_books
from latestart.balances import started, works
from latestart.desk import Desk
from latestart.errors import BadBooks, InvalidBytes, PlanError
from latestart.events import after_day, after_event
from latestart.helping import help_from_above, helped
from latestart.judge import judge, shows_none
from latestart.latest import can_work, latest_plan, starts_today
from latestart.logs import log_of, opened
from latestart.needs import needed
from latestart.papers import paper_of
from latestart.pegging import served
from latestart.promises import first_day_paper, promise_all, shows_first

from tests.asking import plan_or_none, undone_all
from tests.made_up import made_event, made_small, made_up
from tests.test_alike import slightly_other
from tests.test_judge import other_plan


def mixed(many, seed):
    """Bills and books with small and with great numbers."""
    return [*made_small(many, seed), *made_up(many // 2, seed)]


def tell(desk):
    """All that a desk tells but its work."""
    return (desk.bill(), desk.books(), desk.needs(), desk.can_work(), desk.paper(),
            desk.plan() if desk.can_work() else None)


class PlansAndPapers(unittest.TestCase):
    def test_some_plan_works_exactly_if_the_judge_finds_nothing_wrong(self):
        found = {True: 0, False: 0}
        for bill, books in mixed(500, "judged"):
            plan = plan_or_none(bill, books)
            paper = paper_of(bill, books)
            found[plan is not None] += 1
            with self.subTest(bill=bill, books=books):
                self.assertIs(can_work(bill, books), plan is not None)
                self.assertIs(shows_none(bill, books, paper), plan is None)
                if plan is not None:
                    self.assertIsNone(judge(bill, books, plan, paper))
        self.assertGreater(min(found.values()), 100)

    def test_no_plan_works_that_has_started_fewer_lots(self):
        chance = random.Random("fewer")
        tried = 0
        for bill, books in made_small(200, "fewer"):
            latest = plan_or_none(bill, books)
            for _ in range(8):
                plan = other_plan(chance, bill, books, latest or ())
                if works(bill, books, plan):
                    tried += 1
                    with self.subTest(bill=bill, books=books, plan=plan):
                        self.assertIsNotNone(latest)
                        for item in range(len(bill)):
                            for day in range(books[0], 201):
                                self.assertGreaterEqual(started(plan, item, day), started(latest, item, day))
                        today = [(item, started(plan, item, books[0])) for item in range(len(bill))]
                        for item, lots in starts_today(bill, books):
                            self.assertGreaterEqual(dict(today)[item], lots)
        self.assertGreater(tried, 400)

    def test_with_help_the_judge_finds_nothing_wrong(self):
        for bill, books in mixed(200, "help"):
            books = helped(books, help_from_above(bill, books))
            with self.subTest(bill=bill, books=books):
                self.assertIsNone(judge(bill, books, latest_plan(bill, books), paper_of(bill, books)))

    def test_all_that_the_latest_plan_starts_serves_some_order(self):
        for bill, books in made_small(150, "serves"):
            plan = plan_or_none(bill, books)
            if plan is not None:
                with self.subTest(bill=bill, books=books):
                    self.assertEqual([start for start in plan if not served(bill, books, plan, *start[:2])], [])


class Days(unittest.TestCase):
    def test_a_day_keeps_the_rest_of_the_plan_and_all_promised_days(self):
        chance = random.Random("kept")
        days = kept = 0
        for bill, books in made_small(80, "kept"):
            asked = [(chance.randint(1, 99), chance.randrange(len(bill)), chance.randint(1, 9)) for _ in range(4)]
            promised, books = promise_all(bill, books, asked)
            self.expect_promises(bill, books, asked, promised)
            plan = plan_or_none(bill, books)
            while plan is not None and books[3]:
                plan = tuple(start for start in plan if start[1] > books[0])
                try:
                    books = after_day(bill, books)
                except BadBooks:
                    break
                days += 1
                with self.subTest(bill=bill, books=books):
                    self.assertEqual(latest_plan(bill, books), plan)
                    # The orders that were promised stand on their days until these are over.
                    for order, day in zip(asked, promised, strict=True):
                        if day is not None and day >= books[0]:
                            kept += 1
                            self.assertIn((*order, day), books[3])
        self.assertGreater(days, 500)
        self.assertGreater(kept, 200)

    def expect_promises(self, bill, books, asked, promised):
        """A paper shows that each of the promised days is the first one, for the orders that came before it."""
        numbers = [order[0] for order, day in zip(asked, promised, strict=True) if day is not None]
        for order, day in zip(asked, promised, strict=True):
            if day is not None and day > books[0]:
                later = numbers[numbers.index(order[0]):]
                before = (*books[:3], tuple(entry for entry in books[3] if entry[0] not in later))
                with self.subTest(bill=bill, books=before, order=order):
                    paper = first_day_paper(bill, before, *order)
                    self.assertIs(shows_first(bill, before, *order, day, paper), True)
                    self.assertIs(shows_first(bill, before, *order, day + 1, paper), False)

    def test_days_until_all_orders_are_carried_out(self):
        """What is started day by day is the latest plan of the first day, and every order is carried out in time."""
        ends = 0
        for bill, books in made_small(200, "all days"):
            plan = plan_or_none(bill, books)
            if plan is None:
                continue
            done = []
            try:
                while books[3]:
                    done.extend((item, books[0], lots) for item, lots in starts_today(bill, books))
                    books = after_day(bill, books)
            except BadBooks:
                continue
            ends += 1
            with self.subTest(bill=bill):
                self.assertEqual(tuple(sorted(done)), plan)
        self.assertGreater(ends, 80)


class Desks(unittest.TestCase):
    def test_rows_of_events_and_their_logs_cut_anywhere(self):
        chance = random.Random("rows")
        taken = 0
        for bill, books in made_small(25, "rows"):
            desk = Desk(bill, books)
            events, told = [], [tell(desk)]
            for _ in range(chance.randint(0, 12)):
                event = made_event(chance, bill, desk.books())
                try:
                    desk.take(event)
                except PlanError:
                    self.assertEqual(tell(desk), told[-1])
                    continue
                events.append(event)
                told.append(tell(desk))
                self.expect_reckoned(bill, desk)
            taken += len(events)
            data = log_of(bill, books, events)
            ends = [len(log_of(bill, books, events[:many])) for many in range(len(events) + 1)]
            for cut in range(len(data) + 1):
                with self.subTest(bill=bill, books=books, events=events, cut=cut):
                    self.expect_cut(data[:cut], [end for end in ends if end <= cut], told)
            self.assertEqual(undone_all(desk, tell), told[-2::-1])
        self.assertGreater(taken, 80)

    def expect_reckoned(self, bill, desk):
        books = desk.books()
        self.assertEqual(tell(desk), (bill, books, needed(bill, books), can_work(bill, books), paper_of(bill, books),
                                      plan_or_none(bill, books)))

    def expect_cut(self, data, ends, told):
        """A log that is cut gives the desk behind its whole records."""
        if not ends:
            with self.assertRaises(InvalidBytes) as context:
                opened(data)
            self.assertEqual(context.exception.at, 0)
        else:
            desk, at = opened(data)
            self.assertEqual(at, ends[-1])
            self.assertEqual(tell(desk), told[len(ends) - 1])
            self.assertEqual(undone_all(desk, tell), told[:len(ends) - 1][::-1])

    def test_an_opened_desk_is_written_on(self):
        """What is taken behind a cut is written behind the whole records, and opened with them."""
        chance = random.Random("on")
        for bill, books in made_small(40, "on"):
            events, now = [], books
            for _ in range(6):
                event = made_event(chance, bill, now)
                try:
                    now = after_event(bill, now, event)
                except PlanError:
                    continue
                events.append(event)
            data = log_of(bill, books, events)
            start = len(log_of(bill, books, []))
            desk, at = opened(data[:chance.randint(start, len(data))])
            many = len(undone_all(desk, tell))
            self.assertEqual(data[:at], log_of(bill, books, events[:many]))
            again, end = opened(data[:at] + log_of(bill, books, events)[at:])
            with self.subTest(bill=bill, books=books, events=events):
                self.assertEqual((again.books(), end), (now, len(data)))


class Bills(unittest.TestCase):
    def test_alike_bills_have_the_same_plans_and_others_are_parted(self):
        chance = random.Random("bills")
        found = {True: 0, False: 0}
        for one, books in made_small(400, "bills"):
            two = slightly_other(chance, one)
            alike = are_alike(one, two)
            found[alike] += 1
            with self.subTest(one=one, two=two, books=books):
                if alike:
                    self.assertEqual(plan_or_none(one, books), plan_or_none(two, books))
                    self.assertEqual(needed(one, books), needed(two, books))
                else:
                    parting = parting_books(one, two)
                    self.assertNotEqual(needed(one, parting), needed(two, parting))
        self.assertGreater(min(found.values()), 80)


if __name__ == "__main__":
    unittest.main()
