"""The latest plan: each lot is started on the day by which it is needed."""

from latestart.errors import NoPlan
from latestart.needs import needed, steps


def can_work(bill, books):
    """True if some plan works."""
    return in_time(books, needed(bill, books))


def latest_plan(bill, books):
    """The latest plan; raises NoPlan if no plan works."""
    needs = needed(bill, books)
    if not in_time(books, needs):
        raise NoPlan()
    return plan_of(needs)


def starts_today(bill, books):
    """The list of the pairs (item, lots) that the latest plan starts today; raises NoPlan."""
    return [(item, lots) for item, day, lots in latest_plan(bill, books) if day == books[0]]


def in_time(books, needs):
    """True if no lots are needed by a day before today."""
    return all([day >= books[0] for pairs in needs for day, _ in pairs])


def plan_of(needs):
    """The plan that starts all lots on the days by which they are needed."""
    return tuple([(item, day, lots) for item, pairs in enumerate(needs) for day, lots in steps(pairs)])
