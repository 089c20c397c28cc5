"""The needed lots of [n1], reckoned a second time: day by day, with a number for every day."""

# No day of which anything is needed lies outside: not even below 8 items with leads of 10.
LOW = -100
HIGH = 215


def lots_by_days(bill, books):
    """For each item a dict with the lots that are needed by each day from LOW to HIGH."""
    found = {}
    for item in range(len(bill)):
        reckon(bill, books, item, found)
    return [found[item] for item in range(len(bill))]


def reckon(bill, books, item, found):
    """Puts the lots of an item, and of all that use it, into found."""
    if item in found:
        return
    users = [user for user in range(len(bill)) if item in [part for part, _ in bill[user][1]]]
    for user in users:
        reckon(bill, books, user, found)
    _, _, lead, _, good = bill[item]
    lots = {}
    greatest = 0
    for day in range(LOW, HIGH + 11):
        missing = missing_on(bill, books, item, users, found, day)
        greatest = max(greatest, (missing + good - 1) // good)
        lots[day - lead] = greatest
    found[item] = {day: lots.get(day, 0) for day in range(LOW, HIGH + 1)}


def missing_on(bill, books, item, users, found, day):
    """What is taken of an item up to a day, less what is supplied."""
    _, stock, receipts, orders = books
    taken = 0
    for _, other, quantity, when in orders:
        if other == item and when <= day:
            taken += quantity
    for user in users:
        for part, quantity in bill[user][1]:
            if part == item:
                taken += quantity * bill[user][3] * found[user][min(day, HIGH)]
    supply = stock[item]
    for other, when, quantity in receipts:
        if other == item and when <= day:
            supply += quantity
    return taken - supply


def pairs_by_days(bill, books):
    """What needed has to return."""
    return tuple(tuple((day, lots[day]) for day in range(LOW + 1, HIGH + 1) if lots[day] > lots[day - 1])
                 for lots in lots_by_days(bill, books))
