"""The balances of items for a plan, and where they fall short."""

from latestart.levels import used_by


def started(plan, item, day):
    """How many lots of an item a plan starts up to a day."""
    return sum([lots for other, when, lots in plan if other == item and when <= day])


def balance(bill, books, plan, item, day):
    """How many pieces of an item are left on a day; below 0, how many are missing."""
    return books[1][item] + sum([pieces for when, pieces in changes(bill, books, plan, item) if when <= day])


def last_day(bill, books, plan):
    """The day behind which no balance changes."""
    today, _, receipts, orders = books
    days = [today]
    days.extend([receipt[1] for receipt in receipts])
    days.extend([order[3] for order in orders])
    # No lead is below 0, so no start lies behind the day of its yield.
    days.extend([day + bill[item][2] for item, day, _ in plan])
    return max(days)


def shortages(bill, books, plan):
    """The sorted list of all shortages (day, item, missing)."""
    found = []
    for item in range(len(bill)):
        found.extend(shortages_of(bill, books, plan, item))
    return sorted(found)


def works(bill, books, plan):
    """True if a plan works."""
    return not shortages(bill, books, plan)


def changes(bill, books, plan, item):
    """What changes the balance of an item: a list of pairs (day, pieces), below 0 for what is taken."""
    receipts, orders = books[2:]
    lead, good = bill[item][2], bill[item][4]
    found = [(day, pieces) for other, day, pieces in receipts if other == item]
    found.extend([(day + lead, lots * good) for other, day, lots in plan if other == item])
    found.extend([(day, -pieces) for _, other, pieces, day in orders if other == item])
    for user, quantity in used_by(bill, item):
        by_lot = bill[user][3] * quantity
        found.extend([(day, -lots * by_lot) for other, day, lots in plan if other == user])
    return found


def course(bill, books, plan, item):
    """The list of the pairs (day, balance) of an item on today and on all days on which its balance may change."""
    by_day = {books[0]: 0}
    for day, pieces in changes(bill, books, plan, item):
        by_day[day] = by_day.get(day, 0) + pieces
    pairs = []
    left = books[1][item]
    for day in sorted(by_day):
        left += by_day[day]
        pairs.append((day, left))
    return pairs


def shortages_of(bill, books, plan, item):
    """The list of the shortages of an item, by rising days."""
    today = books[0]
    pairs = course(bill, books, plan, item)
    found = []
    for at, (day, left) in enumerate(pairs):
        if day >= today and left < 0 and (day == today or pairs[at - 1][1] >= 0):
            found.append((day, item, -left))
    return found
