"""Pegging: which pieces of an item are taken by what, which orders starts serve, and on what orders rest."""

from latestart.balances import works
from latestart.errors import NoPlan, NoSuchOrder
from latestart.levels import parents_first, used_by


def sources(bill, books, plan, item):
    """The list of the sources (day, source, pieces) of an item; raises NoPlan."""
    check_works(bill, books, plan)
    return sources_of(bill, books, plan, item)


def takings(bill, books, plan, item):
    """The list of the takings (day, taking, pieces) of an item; raises NoPlan."""
    check_works(bill, books, plan)
    return takings_of(bill, books, plan, item)


def pegs(bill, books, plan, item):
    """The list of the pegs (taking, source, pieces) of an item; raises NoPlan."""
    check_works(bill, books, plan)
    return pegs_of(bill, books, plan, item)


def served(bill, books, plan, item, day):
    """The rising list of the numbers of the orders that a start serves; raises NoPlan."""
    check_works(bill, books, plan)
    return sorted(orders_behind(bill, books, plan).get((item, ("start", day)), []))


def rests_on(bill, books, plan, number):
    """The rising list of the indexes of the receipts on which an order rests; raises NoPlan and NoSuchOrder."""
    check_works(bill, books, plan)
    if number not in [order[0] for order in books[3]]:
        raise NoSuchOrder(number)
    behind = orders_behind(bill, books, plan)
    return [k for k, entry in enumerate(books[2]) if number in behind.get((entry[0], ("receipt", k)), [])]


def check_works(bill, books, plan):
    """Raises NoPlan if a plan does not work."""
    if not works(bill, books, plan):
        raise NoPlan()


def sources_of(bill, books, plan, item):
    """The list of the sources of an item, by the days on which they are there."""
    today, stock, receipts, _ = books
    lead, good = bill[item][2], bill[item][4]
    found = [(today, ("stock",), stock[item])]
    found.extend([(day, ("receipt", k), pieces) for k, (other, day, pieces) in enumerate(receipts) if other == item])
    found.extend([(day + lead, ("start", day), lots * good) for other, day, lots in plan if other == item])
    return by_days([row for row in found if row[2] > 0])


def takings_of(bill, books, plan, item):
    """The list of the takings of an item, by their days."""
    found = [(day, ("order", number), pieces) for number, other, pieces, day in books[3] if other == item]
    for user, quantity in used_by(bill, item):
        by_lot = bill[user][3] * quantity
        found.extend([(day, ("start", user, day), lots * by_lot) for other, day, lots in plan if other == user])
    return by_days(found)


def by_days(rows):
    """The rows by their days; on one day they stay in the order in which they stand."""
    return sorted(rows, key=lambda row: row[0])


def pegs_of(bill, books, plan, item):
    """The list of the pegs of an item, for a plan that works."""
    rows = sources_of(bill, books, plan, item)
    at = 0
    # How many pieces of the source at this index are given away already.
    gone = 0
    found = []
    for _, taking, pieces in takings_of(bill, books, plan, item):
        missing = pieces
        while missing > 0:
            _, source, here = rows[at]
            given = min(missing, here - gone)
            found.append((taking, source, given))
            missing -= given
            gone += given
            if gone == here:
                at += 1
                gone = 0
    return found


def orders_behind(bill, books, plan):
    """A dict from (item, source) to the list of the numbers of the orders for which it gives pieces."""
    found = {}
    # Parents first, so that the orders that a start serves are there when its takings are looked at.
    for item in parents_first(bill):
        for taking, source, _ in pegs_of(bill, books, plan, item):
            if taking[0] == "order":
                numbers = [taking[1]]
            else:
                numbers = found.get((taking[1], ("start", taking[2])), [])
            known = found.setdefault((item, source), [])
            known.extend([number for number in numbers if number not in known])
    return found
