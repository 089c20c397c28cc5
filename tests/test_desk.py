"""[d1] and [d2]: a desk behind events, and which items are reckoned anew."""

import random
import unittest

from latestart.bills import read_bill
from latestart.desk import Desk
from latestart.errors import BadBooks, NoPlan, NoSuchOrder, NothingToUndo, PlanError
from latestart.events import after_event
from latestart.latest import can_work
from latestart.levels import parents_first, used_by
from latestart.needs import needed
from latestart.papers import paper_of

from tests.asking import plan_or_none, undone_all
from tests.made_up import made_event, made_small, made_up

EXAMPLE = read_bill("wheel: ; 3 days; 4 yields 4\nbicycle: 2 wheel; 2 days; 1 yields 1")
BOOKS = (0, (3, 0), ((0, 9, 1),), ((1, 1, 2, 6),))

# The top uses the middle, this the bottom, and nothing uses the lone one.
CHAIN = read_bill("bottom: ; 1 days; 1 yields 1\nlone: ; 1 days; 1 yields 1\nmiddle: 2 bottom; 1 days; 10 yields 10\n"
                  "top: 3 middle; 1 days; 1 yields 1")
CHAIN_BOOKS = (0, (100, 5, 4, 0), ((0, 5, 2), (1, 6, 3), (3, 7, 4)), ((1, 3, 2, 9), (2, 1, 1, 9)))

# One event of each kind, each of which EXAMPLE takes with BOOKS.
EVENTS = (("day",), ("moved", 0, 4), ("changed", 0, 3), ("changed", 0, 0), ("expected", 1, 5, 1), ("counted", 0, 9),
          ("scrapped", 0, 1), ("ordered", 2, 0, 3, 8), ("ordered", 1, 1, 3, 9), ("cancelled", 1))


def taken(desk, event):
    """The class of the error with which a desk refuses an event; None if it takes it."""
    try:
        desk.take(event)
    except PlanError as error:
        return error.__class__
    return None


def own_lines(books, item):
    """What an item has of its own in books: its stock, its receipts and its orders."""
    return (books[1][item], [entry[1:] for entry in books[2] if entry[0] == item],
            [entry for entry in books[3] if entry[1] == item])


def work_again(bill, before, after, event):
    """[d2], taken word by word, from needed lots that are reckoned from nothing."""
    order = list(parents_first(bill))
    if event[0] == "day":
        return order
    old, new = needed(bill, before), needed(bill, after)
    return [item for item in order if own_lines(before, item) != own_lines(after, item)
            or any(old[user] != new[user] for user, _ in used_by(bill, item))]


class Reckoned(unittest.TestCase):
    def expect(self, desk, bill, books):
        """A desk has what is reckoned from nothing."""
        self.assertEqual(desk.bill(), bill)
        self.assertEqual(desk.books(), books)
        self.assertEqual(desk.needs(), needed(bill, books))
        self.assertIs(desk.can_work(), can_work(bill, books))
        self.assertEqual(desk.paper(), paper_of(bill, books))
        plan = plan_or_none(bill, books)
        if plan is None:
            with self.assertRaises(NoPlan):
                desk.plan()
        else:
            self.assertEqual(desk.plan(), plan)

    def test_before_any_event(self):
        for bill, books in [(EXAMPLE, BOOKS), ((), (0, (), (), ())), *made_small(60, "desk"), *made_up(60, "desk")]:
            with self.subTest(bill=bill, books=books):
                self.expect(Desk(bill, books), bill, books)

    def test_behind_each_kind_of_event(self):
        for event in EVENTS:
            desk = Desk(EXAMPLE, BOOKS)
            with self.subTest(event=event):
                self.assertIsNone(desk.take(event))
                self.expect(desk, EXAMPLE, after_event(EXAMPLE, BOOKS, event))
                self.assertIsNone(desk.undo())
                self.expect(desk, EXAMPLE, BOOKS)

    def test_where_no_plan_works(self):
        desk = Desk(EXAMPLE, BOOKS)
        desk.take(("ordered", 5, 1, 9, 1))
        self.assertIs(desk.can_work(), False)
        with self.assertRaises(NoPlan):
            desk.plan()
        self.assertEqual(desk.paper(), [(1, -1, 9), (1, 4, 11), (0, -4, 4), (0, 1, 5)])
        desk.take(("cancelled", 5))
        self.assertEqual(desk.plan(), ((0, 1, 1), (1, 4, 2)))

    def test_behind_made_up_events(self):
        chance = random.Random("desk")
        kinds = {}
        for bill, books in made_small(120, "behind"):
            desk = Desk(bill, books)
            rows = [books]
            for _ in range(12):
                event = made_event(chance, bill, desk.books())
                if taken(desk, event) is None:
                    rows.append(after_event(bill, rows[-1], event))
                    kinds[event[0]] = kinds.get(event[0], 0) + 1
                with self.subTest(bill=bill, books=rows, event=event):
                    self.expect(desk, bill, rows[-1])
            while len(rows) > 1:
                rows.pop()
                desk.undo()
                with self.subTest(bill=bill, books=rows):
                    self.expect(desk, bill, rows[-1])
            with self.assertRaises(NothingToUndo):
                desk.undo()
        self.assertEqual(len(kinds), 8)
        self.assertGreater(min(kinds.values()), 40)


class Undo(unittest.TestCase):
    def test_nothing_to_undo(self):
        desk = Desk(EXAMPLE, BOOKS)
        for _ in range(2):
            with self.assertRaises(NothingToUndo):
                desk.undo()
            self.assertEqual(desk.books(), BOOKS)
        desk.take(("counted", 0, 9))
        desk.undo()
        with self.assertRaises(NothingToUndo):
            desk.undo()

    def test_several_events_one_by_one(self):
        desk = Desk(EXAMPLE, BOOKS)
        rows = [BOOKS]
        for event in EVENTS[1:2] + EVENTS[4:]:
            desk.take(event)
            rows.append(desk.books())
        self.assertEqual(undone_all(desk), rows[-2::-1])

    def test_a_day(self):
        desk = Desk(EXAMPLE, (1, (3, 0), (), ((1, 1, 2, 6),)))
        desk.take(("day",))
        desk.take(("day",))
        self.assertEqual(desk.books(), (3, (3, 0), ((0, 4, 4),), ((1, 1, 2, 6),)))
        self.assertEqual(desk.plan(), ((1, 4, 2),))
        desk.undo()
        desk.undo()
        self.assertEqual(desk.plan(), ((0, 1, 1), (1, 4, 2)))

    def test_events_that_change_nothing_are_undone_too(self):
        desk = Desk(EXAMPLE, BOOKS)
        desk.take(("counted", 0, 3))
        desk.take(("counted", 0, 4))
        desk.take(("scrapped", 0, 0))
        self.assertEqual(undone_all(desk), [(0, (4, 0), *BOOKS[2:]), BOOKS, BOOKS])

    def test_events_behind_undoing(self):
        desk = Desk(EXAMPLE, BOOKS)
        desk.take(("counted", 0, 9))
        desk.take(("counted", 1, 9))
        desk.undo()
        desk.take(("counted", 1, 7))
        self.assertEqual(desk.books()[1], (9, 7))
        self.assertEqual(undone_all(desk), [(0, (9, 0), *BOOKS[2:]), BOOKS])


class Refused(unittest.TestCase):
    REFUSED = ((("moved", 1, 5), BadBooks), (("changed", -1, 5), BadBooks), (("expected", 2, 5, 5), BadBooks),
               (("counted", 0, 10001), BadBooks), (("scrapped", 1, 1), BadBooks), (("ordered", 1, 1, 501, 9), BadBooks),
               (("cancelled", 9), NoSuchOrder))

    def expect_unchanged(self, desk, books, needs, work, event, error):
        with self.subTest(event=event):
            self.assertIs(taken(desk, event), error)
            self.assertEqual((desk.books(), desk.needs(), desk.work()), (books, needs, work))

    def test_an_event_that_is_refused_changes_nothing(self):
        for before in ((), (("ordered", 2, 0, 3, 8),), (("ordered", 2, 0, 3, 8), ("counted", 0, 2))):
            desk = Desk(EXAMPLE, BOOKS)
            rows = [BOOKS]
            for event in before:
                desk.take(event)
                rows.append(desk.books())
            for event, error in self.REFUSED:
                self.expect_unchanged(desk, rows[-1], needed(EXAMPLE, rows[-1]), desk.work(), event, error)
            self.assertEqual(undone_all(desk), rows[-2::-1])

    def test_a_day_that_is_refused(self):
        desk = Desk(EXAMPLE, (0, (0, 0), (), ((1, 1, 2, 4),)))
        self.expect_unchanged(desk, desk.books(), desk.needs(), [1, 0], ("day",), NoPlan)
        desk = Desk(EXAMPLE, (200, (0, 0), (), ()))
        self.expect_unchanged(desk, desk.books(), desk.needs(), [1, 0], ("day",), BadBooks)
        self.assertEqual(undone_all(desk), [])

    def test_the_fields_of_the_errors(self):
        desk = Desk(EXAMPLE, BOOKS)
        for event, word in ((("moved", 1, 5), "receipts"), (("counted", 0, 10001), "stock"),
                            (("ordered", 1, 1, 501, 9), "orders")):
            with self.assertRaises(BadBooks) as context:
                desk.take(event)
            self.assertEqual(context.exception.word, word)
        with self.assertRaises(NoSuchOrder) as context:
            desk.take(("cancelled", 9))
        self.assertEqual(context.exception.number, 9)


class Work(unittest.TestCase):
    def expect(self, event, work, bill=CHAIN, books=CHAIN_BOOKS):
        desk = Desk(bill, books)
        desk.take(event)
        with self.subTest(event=event):
            self.assertEqual(desk.work(), work)
            self.assertEqual(work_again(bill, books, desk.books(), event), work)

    def test_behind_desk_all_parents_first(self):
        self.assertEqual(Desk(CHAIN, CHAIN_BOOKS).work(), [1, 3, 2, 0])
        self.assertEqual(Desk(EXAMPLE, BOOKS).work(), [1, 0])
        self.assertEqual(Desk((), (0, (), (), ())).work(), [])

    def test_an_item_whose_own_lines_are_others(self):
        # Neither the bottom nor the lone item has parts, whose needed lots could be others then.
        self.expect(("counted", 0, 99), [0])
        self.expect(("scrapped", 0, 1), [0])
        self.expect(("moved", 0, 6), [0])
        self.expect(("changed", 0, 5), [0])
        self.expect(("changed", 0, 0), [0])
        self.expect(("changed", 1, 1), [1])
        self.expect(("expected", 1, 9, 1), [1])
        self.expect(("ordered", 50, 0, 1, 9), [0])
        self.expect(("ordered", 50, 1, 1, 9), [1])
        self.expect(("ordered", 2, 1, 2, 9), [1])
        self.expect(("cancelled", 2), [1])

    def test_items_whose_users_need_others(self):
        # 4 of the top are expected on the day 7, so that an order of 5 and more needs lots.
        self.expect(("ordered", 1, 3, 5, 9), [3, 2])
        self.expect(("ordered", 1, 3, 6, 9), [3, 2, 0])
        self.expect(("changed", 2, 0), [3, 2, 0])
        self.expect(("cancelled", 1), [3])

    def test_an_item_whose_user_needs_the_same(self):
        # One lot of the middle is enough for what the top takes, before and behind.
        books = (0, (100, 5, 4, 0), (), ((1, 3, 3, 9),))
        self.expect(("ordered", 1, 3, 4, 9), [3, 2], books=books)
        self.expect(("ordered", 1, 3, 5, 9), [3, 2, 0], books=books)
        self.expect(("counted", 2, 5), [2], books=books)
        self.expect(("counted", 2, 9), [2, 0], books=books)
        self.expect(("counted", 3, 1), [3, 2], books=(0, (100, 5, 4, 0), (), ((1, 3, 4, 9),)))

    def test_an_order_of_another_item(self):
        self.expect(("ordered", 1, 1, 2, 9), [1, 3])
        self.expect(("ordered", 2, 0, 1, 9), [1, 0])

    def test_an_event_that_changes_nothing(self):
        for event in (("counted", 0, 100), ("scrapped", 3, 0), ("moved", 1, 6), ("changed", 2, 4),
                      ("ordered", 1, 3, 2, 9)):
            self.expect(event, [])

    def test_a_receipt_whose_index_alone_is_another(self):
        # The receipts behind the one that is taken away keep what they are.
        self.expect(("changed", 0, 0), [0])

    def test_behind_a_day_all(self):
        self.expect(("day",), [1, 3, 2, 0])
        self.expect(("day",), [1, 0], EXAMPLE, (0, (0, 0), (), ()))

    def test_behind_undoing_none(self):
        desk = Desk(CHAIN, CHAIN_BOOKS)
        for event in (("day",), ("counted", 0, 9), ("ordered", 1, 3, 9, 9)):
            desk.take(event)
        for _ in range(3):
            desk.undo()
            self.assertEqual(desk.work(), [])
        with self.assertRaises(NothingToUndo):
            desk.undo()
        self.assertEqual(desk.work(), [])

    def test_undoing_that_is_refused_leaves_it(self):
        desk = Desk(CHAIN, CHAIN_BOOKS)
        with self.assertRaises(NothingToUndo):
            desk.undo()
        self.assertEqual(desk.work(), [1, 3, 2, 0])

    def test_behind_made_up_events(self):
        chance = random.Random("work")
        lengths = {}
        for bill, books in made_small(250, "work"):
            desk = Desk(bill, books)
            self.assertEqual(desk.work(), list(parents_first(bill)))
            for _ in range(10):
                before, work = desk.books(), desk.work()
                event = made_event(chance, bill, before)
                error = taken(desk, event)
                if error is None:
                    work = work_again(bill, before, desk.books(), event)
                    lengths[len(work)] = lengths.get(len(work), 0) + 1
                with self.subTest(bill=bill, books=before, event=event, error=error):
                    self.assertEqual(desk.work(), work)
        self.assertGreater(min(lengths[length] for length in (0, 1, 2, 3)), 30)


class Look(unittest.TestCase):
    def test_no_events(self):
        self.assertEqual(Desk(EXAMPLE, BOOKS).look([]), (BOOKS, needed(EXAMPLE, BOOKS)))

    def test_each_kind_of_event(self):
        for event in EVENTS:
            desk = Desk(EXAMPLE, BOOKS)
            after = after_event(EXAMPLE, BOOKS, event)
            with self.subTest(event=event):
                self.assertEqual(desk.look([event]), (after, needed(EXAMPLE, after)))
                self.assertEqual((desk.books(), desk.needs()), (BOOKS, needed(EXAMPLE, BOOKS)))

    def test_one_after_the_other(self):
        desk = Desk(EXAMPLE, BOOKS)
        desk.take(("counted", 0, 2))
        books, needs = desk.look([("expected", 1, 5, 1), ("moved", 1, 4), ("changed", 0, 0), ("day",)])
        self.assertEqual(books, (1, (2, 0), ((1, 4, 1),), ((1, 1, 2, 6),)))
        self.assertEqual(needs, needed(EXAMPLE, books))

    def test_the_desk_stays_as_it_is(self):
        desk = Desk(EXAMPLE, BOOKS)
        desk.take(("counted", 1, 1))
        now = (desk.books(), desk.needs(), desk.plan(), desk.paper(), desk.work())
        for events in ([], [("day",)], [("counted", 0, 9), ("cancelled", 1)]):
            desk.look(events)
            self.assertEqual((desk.books(), desk.needs(), desk.plan(), desk.paper(), desk.work()), now)
        for events, error in (([("counted", 0, 9), ("cancelled", 2), ("counted", 1, 0)], NoSuchOrder),
                              ([("day",), ("moved", 5, 9)], BadBooks), ([("ordered", 3, 1, 9, 0), ("day",)], NoPlan)):
            with self.assertRaises(error):
                desk.look(events)
            self.assertEqual((desk.books(), desk.needs(), desk.plan(), desk.paper(), desk.work()), now)
        self.assertEqual(undone_all(desk), [BOOKS])

    def test_made_up_events(self):
        chance = random.Random("look")
        for bill, books in made_small(100, "look"):
            desk = Desk(bill, books)
            rows = []
            now = books
            for _ in range(chance.randint(0, 5)):
                event = made_event(chance, bill, now)
                other = Desk(bill, now)
                if taken(other, event) is None:
                    now = other.books()
                    rows.append(event)
            with self.subTest(bill=bill, books=books, events=rows):
                self.assertEqual(desk.look(rows), (now, needed(bill, now)))
                self.assertEqual((desk.books(), desk.needs()), (books, needed(bill, books)))
                self.assertEqual(undone_all(desk), [])


class Changeable(unittest.TestCase):
    def test_what_is_returned_can_be_changed(self):
        desk = Desk(EXAMPLE, BOOKS)
        for _ in range(2):
            for found, expected in ((desk.paper(), [(1, 4, 2), (0, 1, 1)]), (desk.work(), [1, 0])):
                self.assertEqual(found, expected)
                found.clear()

    def test_events_stay_as_they_are(self):
        desk = Desk(EXAMPLE, BOOKS)
        events = [("counted", 0, 9), ("day",)]
        desk.look(events)
        self.assertEqual(events, [("counted", 0, 9), ("day",)])

    def test_two_desks_do_not_meet(self):
        one, two = Desk(EXAMPLE, BOOKS), Desk(EXAMPLE, BOOKS)
        one.take(("cancelled", 1))
        self.assertEqual((two.books(), two.needs(), two.work()), (BOOKS, needed(EXAMPLE, BOOKS), [1, 0]))
        with self.assertRaises(NothingToUndo):
            two.undo()


if __name__ == "__main__":
    unittest.main()
