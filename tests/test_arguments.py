"""Basics: no function modifies its arguments, and what a function returns is new each time."""

import copy
import random
import unittest

from latestart.alike import are_alike, parting_books, taken_by_lot
from latestart.balances import balance, last_day, shortages, started, works
from latestart.bills import item_named, read_bill
from latestart.books import check_books, check_plan, ordered, supplied
from latestart.desk import Desk
from latestart.errors import PlanError
from latestart.events import after_day, after_event
from latestart.helping import help_from_above, helped, is_enough, least_help
from latestart.judge import first_wrong, follows, judge, shows_none
from latestart.latest import can_work, latest_plan, starts_today
from latestart.levels import parents_first, used_by, whole_lead
from latestart.logs import (event_bytes, log_of, number_bytes, opened, read_number, read_record, record_of,
                            start_bytes)
from latestart.needs import needed, needed_by
from latestart.papers import paper_of
from latestart.pegging import pegs, rests_on, served, sources, takings
from latestart.promises import first_day_paper, promise_all, promised_day, shows_first, with_order
from latestart.tokens import tokens
from latestart.writing import write_bill

from tests.made_up import made_event, made_small, made_up_plans
from tests.test_alike import slightly_other

# Each with the arguments that it takes, by their names in the interface.
CALLS = (
    (tokens, ("line",)),
    (read_bill, ("text",)),
    (item_named, ("bill", "name")),
    (write_bill, ("bill",)),
    (parents_first, ("bill",)),
    (used_by, ("bill", "item")),
    (whole_lead, ("bill", "item")),
    (check_books, ("bill", "books")),
    (check_plan, ("bill", "books", "plan")),
    (supplied, ("books", "item", "day")),
    (ordered, ("books", "item", "day")),
    (started, ("plan", "item", "day")),
    (balance, ("bill", "books", "plan", "item", "day")),
    (last_day, ("bill", "books", "plan")),
    (shortages, ("bill", "books", "plan")),
    (works, ("bill", "books", "plan")),
    (needed, ("bill", "books")),
    (needed_by, ("needs", "item", "day")),
    (can_work, ("bill", "books")),
    (latest_plan, ("bill", "books")),
    (starts_today, ("bill", "books")),
    (paper_of, ("bill", "books")),
    (follows, ("bill", "books", "facts", "fact")),
    (first_wrong, ("bill", "books", "paper")),
    (shows_none, ("bill", "books", "paper")),
    (judge, ("bill", "books", "plan", "paper")),
    (with_order, ("books", "number", "item", "quantity", "day")),
    (promised_day, ("bill", "books", "number", "item", "quantity")),
    (promise_all, ("bill", "books", "asked")),
    (first_day_paper, ("bill", "books", "number", "item", "quantity")),
    (shows_first, ("bill", "books", "number", "item", "quantity", "day", "paper")),
    (sources, ("bill", "books", "plan", "item")),
    (takings, ("bill", "books", "plan", "item")),
    (pegs, ("bill", "books", "plan", "item")),
    (served, ("bill", "books", "plan", "item", "day")),
    (rests_on, ("bill", "books", "plan", "number")),
    (after_day, ("bill", "books")),
    (after_event, ("bill", "books", "event")),
    (helped, ("books", "extra")),
    (is_enough, ("bill", "books", "extra")),
    (help_from_above, ("bill", "books")),
    (least_help, ("bill", "books", "most")),
    (taken_by_lot, ("bill", "item", "other")),
    (are_alike, ("one", "two")),
    (parting_books, ("one", "two")),
    (number_bytes, ("n",)),
    (read_number, ("data", "at")),
    (record_of, ("body",)),
    (read_record, ("data", "at")),
    (event_bytes, ("event",)),
    (start_bytes, ("bill", "books")),
    (log_of, ("bill", "books", "events")),
    (opened, ("data",)),
)

# The methods of a desk likewise.
METHODS = (
    (Desk.bill, ()),
    (Desk.books, ()),
    (Desk.needs, ()),
    (Desk.can_work, ()),
    (Desk.plan, ()),
    (Desk.paper, ()),
    (Desk.take, ("event",)),
    (Desk.work, ()),
    (Desk.look, ("events",)),
    (Desk.undo, ()),
)

# Those that return lists, be it within tuples.
LISTS = ("tokens", "used_by", "shortages", "starts_today", "paper_of", "promise_all", "first_day_paper", "sources",
         "takings", "pegs", "served", "rests_on", "number_bytes", "record_of", "read_record", "event_bytes",
         "start_bytes", "log_of")


def with_plans(many):
    """Yields bills and books, with plans that do not work and with such that do."""
    yield from made_up_plans(many, "arguments")
    for bill, books in made_small(many, "arguments"):
        yield bill, books, latest_plan(bill, books) if can_work(bill, books) else ()


def of_stage_five(chance, bill, books, item):
    """The arguments for texts, help, other bills and bytes."""
    text = write_bill(bill)
    events = [event for event in [made_event(chance, bill, books) for _ in range(3)] if min((0, *event[1:])) == 0]
    data = log_of(bill, books, events)
    return {"text": chance.choice((text, text[1:])), "line": text.split("\n")[item], "events": events, "data": data,
            "name": chance.choice((bill[item][0], "none")), "extra": tuple(chance.randint(0, 5) for _ in bill),
            "most": chance.randint(0, 3), "other": chance.randrange(len(bill)), "one": bill,
            "two": slightly_other(chance, bill), "n": chance.choice((0, 7, 5000)), "body": data[:20],
            "at": chance.choice((0, 1, len(data)))}


def calls(many):
    """Yields functions with lists of arguments."""
    chance = random.Random("arguments")
    for bill, books, plan in with_plans(many):
        paper = paper_of(bill, books)
        for item in range(len(bill)):
            asked = [(chance.randint(1, 99), item, chance.randint(1, 9)) for _ in range(3)]
            given = {"bill": bill, "books": books, "plan": plan, "needs": needed(bill, books), "item": item,
                     "day": books[0] + 1 + chance.randint(0, 8), "paper": paper, "facts": paper[:-1],
                     "fact": paper[-1] if paper else (item, books[0], 1), "number": chance.randint(1, 99),
                     "quantity": chance.randint(1, 20), "asked": asked, "event": made_event(chance, bill, books)}
            if books[3] and chance.random() < 0.5:
                given["number"] = books[3][0][0]
            given.update(of_stage_five(chance, bill, books, item))
            for function, names in CALLS:
                # Each call has arguments of its own, so that none is spoiled by what another one does with them.
                yield function, copy.deepcopy([given[name] for name in names])


def outcome(function, arguments):
    """What a function returns, or the class of the error that it raises."""
    try:
        return function(*arguments)
    except PlanError as error:
        return error.__class__


def shown(value):
    """The value, but what a desk tells instead of a desk, as two desks are never the same."""
    if isinstance(value, Desk):
        return value.bill(), value.books(), value.needs(), value.work()
    if isinstance(value, tuple):
        return tuple(shown(part) for part in value)
    return value


class Arguments(unittest.TestCase):
    def test_they_are_as_before_behind_every_call(self):
        for function, arguments in calls(60):
            before = copy.deepcopy(arguments)
            outcome(function, arguments)
            with self.subTest(function=function.__name__, before=before):
                self.assertEqual(arguments, before)

    def test_the_parameters_have_the_names_of_the_interface(self):
        for function, names in CALLS:
            with self.subTest(function=function.__name__):
                self.assertEqual(function.__code__.co_varnames[:function.__code__.co_argcount], names)


class Returned(unittest.TestCase):
    def test_the_same_again_from_the_same_arguments(self):
        for function, arguments in calls(30):
            with self.subTest(function=function.__name__, arguments=arguments):
                self.assertEqual(shown(outcome(function, arguments)),
                                 shown(outcome(function, copy.deepcopy(arguments))))

    def test_a_list_is_new_each_time(self):
        found = set()
        for function, arguments in calls(30):
            first = outcome(function, arguments)
            kept = copy.deepcopy(first)
            if spoil(first):
                found.add(function.__name__)
                with self.subTest(function=function.__name__, arguments=arguments):
                    self.assertEqual(outcome(function, arguments), kept)
        self.assertEqual(found, set(LISTS))


class Methods(unittest.TestCase):
    def desks(self, many):
        """Yields desks with what they were made of, some of which have taken an event, and methods with arguments."""
        chance = random.Random("methods")
        for bill, books in made_small(many, "methods"):
            for method, names in METHODS:
                given = [bill, books]
                desk = Desk(*given)
                first = made_event(chance, bill, books)
                outcome(desk.take, [first])
                now = desk.books()
                values = {"event": made_event(chance, bill, now),
                          "events": [made_event(chance, bill, now) for _ in range(chance.randint(0, 3))]}
                yield desk, [*given, first], method, [values[name] for name in names]

    def test_arguments_are_as_before(self):
        for desk, given, method, arguments in self.desks(40):
            before = copy.deepcopy([given, arguments])
            outcome(method, [desk, *arguments])
            with self.subTest(method=method.__name__, before=before):
                self.assertEqual([given, arguments], before)

    def test_the_parameters_have_the_names_of_the_interface(self):
        for method, names in METHODS:
            with self.subTest(method=method.__name__):
                self.assertEqual(method.__code__.co_varnames[:method.__code__.co_argcount], ("self", *names))

    def test_what_is_returned_can_be_changed(self):
        found = set()
        for desk, given, method, arguments in self.desks(20):
            if method in (Desk.take, Desk.undo):
                continue
            first = outcome(method, [desk, *arguments])
            kept = copy.deepcopy(first)
            if spoil(first):
                found.add(method.__name__)
            with self.subTest(method=method.__name__, given=given):
                self.assertEqual(outcome(method, [desk, *arguments]), kept)
        self.assertEqual(found, {"paper", "work"})


def spoil(value):
    """Changes all lists within a value; True if there is one."""
    found = False
    if isinstance(value, (list, tuple)):
        for part in value:
            found = spoil(part) or found
    if isinstance(value, list):
        value.append("more")
        found = True
    return found


if __name__ == "__main__":
    unittest.main()
