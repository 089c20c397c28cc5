"""Promises: the first day on which an order is possible, and the paper that no earlier one is."""

from latestart.books import LAST_DAY, MOST_ENTRIES
from latestart.errors import BadBooks, NoPlan
from latestart.judge import shows_none
from latestart.latest import can_work
from latestart.papers import paper_of


def with_order(books, number, item, quantity, day):
    """The books with one more order; raises BadBooks."""
    today, stock, receipts, orders = books
    if len(orders) >= MOST_ENTRIES or number in [order[0] for order in orders]:
        raise BadBooks("orders")
    return today, stock, receipts, tuple(sorted([*orders, (number, item, quantity, day)]))


def promised_day(bill, books, number, item, quantity):
    """The first day on which an order is possible; raises BadBooks, and NoPlan if there is none."""
    first, last = books[0], LAST_DAY
    if not is_possible(bill, books, number, item, quantity, last):
        raise NoPlan()
    # What is possible on a day is possible on each later one, so half of the days are left each time.
    while first < last:
        middle = (first + last) // 2
        if is_possible(bill, books, number, item, quantity, middle):
            last = middle
        else:
            first = middle + 1
    return first


def promise_all(bill, books, asked):
    """The list of the promised days of orders (number, item, quantity), or None, and the books with all of them."""
    behind = books
    days = []
    for number, item, quantity in asked:
        day = day_or_none(bill, behind, number, item, quantity)
        if day is not None:
            behind = with_order(behind, number, item, quantity, day)
        days.append(day)
    return days, behind


def first_day_paper(bill, books, number, item, quantity):
    """The paper that the promised day is the first; None if this is today. Raises BadBooks and NoPlan."""
    day = promised_day(bill, books, number, item, quantity)
    if day == books[0]:
        return None
    return paper_of(bill, with_order(books, number, item, quantity, day - 1))


def shows_first(bill, books, number, item, quantity, day, paper):
    """True if a paper shows that no day before this one is possible for an order."""
    return shows_none(bill, with_order(books, number, item, quantity, day - 1), paper)


def is_possible(bill, books, number, item, quantity, day):
    """True if some plan works for the books with an order."""
    return can_work(bill, with_order(books, number, item, quantity, day))


def day_or_none(bill, books, number, item, quantity):
    """The promised day of an order; None if it cannot be promised."""
    try:
        return promised_day(bill, books, number, item, quantity)
    except (BadBooks, NoPlan):
        return None
