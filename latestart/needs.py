"""The needed lots of items: how many have to be started by which day."""

from latestart.balances import course
from latestart.levels import parents_first, used_by


def needed(bill, books):
    """A tuple with a tuple for each item: the pairs (day, lots) of the days by which more lots are needed."""
    needs = [()] * len(bill)
    for item in parents_first(bill):
        needs[item] = needed_of(bill, books, needs, item)
    return tuple(needs)


def needed_by(needs, item, day):
    """The lots of an item that are needed by a day."""
    return max([lots for when, lots in needs[item] if when <= day], default=0)


def needed_of(bill, books, needs, item):
    """The pairs (day, lots) of an item, where needs has those of all items that use it."""
    return lots_for(bill, item, unmade(bill, books, needs, item))


def unmade(bill, books, needs, item):
    """The pairs (day, balance) of an item if no lots of it are started, where needs has all that use it."""
    starts = [(user, day, lots) for user, _ in used_by(bill, item) for day, lots in steps(needs[user])]
    # None of these starts is one of the item itself.
    return course(bill, books, starts, item)


def lots_for(bill, item, pairs):
    """The pairs (day, lots) of an item that has these pairs (day, balance) if no lots of it are started."""
    lead, good = bill[item][2], bill[item][4]
    found = []
    most = 0
    for day, left in pairs:
        # The lack divided by the yield, rounded up.
        lots = -(left // good)
        if lots > most:
            found.append((day - lead, lots))
            most = lots
    return tuple(found)


def steps(pairs):
    """The pairs (day, lots) of an item, but each with the lots that are needed by no earlier day."""
    found = []
    before = 0
    for day, lots in pairs:
        found.append((day, lots - before))
        before = lots
    return found
