"""Basics: no function modifies its arguments, and what a function returns is new each time."""

import copy
import unittest

from latestart.balances import balance, last_day, shortages, started, works
from latestart.books import check_books, check_plan, ordered, supplied
from latestart.levels import parents_first, used_by, whole_lead
from latestart.writing import write_bill

from tests.made_up import made_up_plans

# Each with the arguments that it takes of: bill, books, plan, item, day.
CALLS = (
    (write_bill, ("bill",)),
    (parents_first, ("bill",)),
    (used_by, ("bill", "item")),
    (whole_lead, ("bill", "item")),
    (check_books, ("bill", "books")),
    (check_plan, ("bill", "books", "plan")),
    (supplied, ("books", "item", "day")),
    (ordered, ("books", "item", "day")),
    (started, ("plan", "item", "day")),
    (balance, ("bill", "books", "plan", "item", "day")),
    (last_day, ("bill", "books", "plan")),
    (shortages, ("bill", "books", "plan")),
    (works, ("bill", "books", "plan")),
)


def calls(many):
    """Yields functions with lists of arguments."""
    for at, (bill, books, plan) in enumerate(made_up_plans(many, "arguments")):
        for item in range(len(bill)):
            given = {"bill": bill, "books": books, "plan": plan, "item": item, "day": books[0] + at % 9}
            for function, names in CALLS:
                yield function, [given[name] for name in names]


class Arguments(unittest.TestCase):
    def test_they_are_as_before_behind_every_call(self):
        for function, arguments in calls(60):
            before = copy.deepcopy(arguments)
            function(*arguments)
            with self.subTest(function=function.__name__, before=before):
                self.assertEqual(arguments, before)

    def test_the_parameters_have_the_names_of_the_interface(self):
        for function, names in CALLS:
            with self.subTest(function=function.__name__):
                self.assertEqual(function.__code__.co_varnames[:function.__code__.co_argcount], names)


class Returned(unittest.TestCase):
    def test_the_same_again_from_the_same_arguments(self):
        for function, arguments in calls(20):
            with self.subTest(function=function.__name__, arguments=arguments):
                self.assertEqual(function(*arguments), function(*copy.deepcopy(arguments)))

    def test_a_list_is_new_each_time(self):
        lists = set()
        for function, arguments in calls(20):
            first = function(*arguments)
            if isinstance(first, list):
                lists.add(function.__name__)
                kept = list(first)
                first.append("more")
                with self.subTest(function=function.__name__, arguments=arguments):
                    self.assertEqual(function(*arguments), kept)
        self.assertEqual(lists, {"used_by", "shortages"})


if __name__ == "__main__":
    unittest.main()
