"""Basics: no function modifies its arguments, and what a function returns is new each time."""

import copy
import unittest

from latestart.balances import balance, last_day, shortages, started, works
from latestart.books import check_books, check_plan, ordered, supplied
from latestart.errors import PlanError
from latestart.latest import can_work, latest_plan, starts_today
from latestart.levels import parents_first, used_by, whole_lead
from latestart.needs import needed, needed_by
from latestart.papers import paper_of
from latestart.writing import write_bill

from tests.made_up import made_up_plans

# Each with the arguments that it takes, by their names in the interface.
CALLS = (
    (write_bill, ("bill",)),
    (parents_first, ("bill",)),
    (used_by, ("bill", "item")),
    (whole_lead, ("bill", "item")),
    (check_books, ("bill", "books")),
    (check_plan, ("bill", "books", "plan")),
    (supplied, ("books", "item", "day")),
    (ordered, ("books", "item", "day")),
    (started, ("plan", "item", "day")),
    (balance, ("bill", "books", "plan", "item", "day")),
    (last_day, ("bill", "books", "plan")),
    (shortages, ("bill", "books", "plan")),
    (works, ("bill", "books", "plan")),
    (needed, ("bill", "books")),
    (needed_by, ("needs", "item", "day")),
    (can_work, ("bill", "books")),
    (latest_plan, ("bill", "books")),
    (starts_today, ("bill", "books")),
    (paper_of, ("bill", "books")),
)


def calls(many):
    """Yields functions with lists of arguments."""
    for at, (bill, books, plan) in enumerate(made_up_plans(many, "arguments")):
        needs = needed(bill, books)
        for item in range(len(bill)):
            given = {"bill": bill, "books": books, "plan": plan, "needs": needs, "item": item,
                     "day": books[0] + at % 9}
            for function, names in CALLS:
                yield function, [given[name] for name in names]


def outcome(function, arguments):
    """What a function returns, or the class of the error that it raises."""
    try:
        return function(*arguments)
    except PlanError as error:
        return error.__class__


class Arguments(unittest.TestCase):
    def test_they_are_as_before_behind_every_call(self):
        for function, arguments in calls(60):
            before = copy.deepcopy(arguments)
            outcome(function, arguments)
            with self.subTest(function=function.__name__, before=before):
                self.assertEqual(arguments, before)

    def test_the_parameters_have_the_names_of_the_interface(self):
        for function, names in CALLS:
            with self.subTest(function=function.__name__):
                self.assertEqual(function.__code__.co_varnames[:function.__code__.co_argcount], names)


class Returned(unittest.TestCase):
    def test_the_same_again_from_the_same_arguments(self):
        for function, arguments in calls(30):
            with self.subTest(function=function.__name__, arguments=arguments):
                self.assertEqual(outcome(function, arguments), outcome(function, copy.deepcopy(arguments)))

    def test_a_list_is_new_each_time(self):
        lists = set()
        for function, arguments in calls(30):
            first = outcome(function, arguments)
            if isinstance(first, list):
                lists.add(function.__name__)
                kept = list(first)
                first.append("more")
                with self.subTest(function=function.__name__, arguments=arguments):
                    self.assertEqual(outcome(function, arguments), kept)
        self.assertEqual(lists, {"used_by", "shortages", "starts_today", "paper_of"})


if __name__ == "__main__":
    unittest.main()
