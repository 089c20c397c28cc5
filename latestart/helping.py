"""Help: pieces that are there today besides the stock, so that some plan works."""

from latestart.errors import TooMany
from latestart.latest import can_work
from latestart.levels import parents_first
from latestart.needs import lots_for, unmade


def helped(books, extra):
    """The books with the stock raised by help."""
    today, stock, receipts, orders = books
    return today, tuple([pieces + more for pieces, more in zip(stock, extra)]), receipts, orders


def is_enough(bill, books, extra):
    """True if some plan works with help."""
    return can_work(bill, helped(books, extra))


def help_from_above(bill, books):
    """The help with the fewest pieces of each item for that of the items that use it."""
    needs = [()] * len(bill)
    extra = [0] * len(bill)
    for item in parents_first(bill):
        pairs = unmade(bill, books, needs, item)
        extra[item] = fewest(bill, books, item, pairs)
        needs[item] = lots_for(bill, item, raised(pairs, extra[item]))
    return tuple(extra)


def least_help(bill, books, most):
    """The help with the fewest pieces in all; raises TooMany."""
    # The help from above is enough, so the least help has no more pieces.
    greatest = min(most, sum(help_from_above(bill, books)))
    limit = min(1, greatest)
    found = least_within(bill, books, limit)
    # Step by step, since a search takes the longer the more pieces it may give.
    while found is None and limit < greatest:
        limit = min(2 * limit, greatest)
        found = least_within(bill, books, limit)
    if found is None:
        raise TooMany(most)
    return found


def least_within(bill, books, limit):
    """The least help; None if it has more than so many pieces."""
    # A row is (pieces in all, help, needed lots) for the items taken so far; the others have no help yet.
    rows = [(0, (0,) * len(bill), ((),) * len(bill))] if limit >= 0 else []
    order = parents_first(bill)
    for at, item in enumerate(order):
        found = []
        for row in rows:
            found.extend(rows_with(bill, books, row, item, order[at + 1:], limit))
        rows = first_rows(found)
    return rows[0][1] if rows else None


def rows_with(bill, books, row, item, waiting, limit):
    """The rows with each help for one more item that can be a part of the least help."""
    pieces, extra, needs = row
    found = []
    for more, lots in choices(bill, books, item, unmade(bill, books, needs, item), limit - pieces):
        after = kept(bill, (*needs[:item], lots, *needs[item + 1:]), waiting)
        left = limit - pieces - more
        if least_more(bill, books, after, waiting, left) <= left:
            found.append((pieces + more, (*extra[:item], more, *extra[item + 1:]), after))
    return found


def choices(bill, books, item, pairs, limit):
    """The pairs (help, needed lots) of an item: the fewest pieces, and those with which fewer lots are needed."""
    # With any other number of pieces, a piece less would be enough, too, so it is no part of the least help.
    found = []
    for pieces in range(fewest(bill, books, item, pairs), limit + 1):
        lots = lots_for(bill, item, raised(pairs, pieces))
        if not found or lots != found[-1][1]:
            found.append((pieces, lots))
        if not lots or not bill[item][1]:
            break
    return found


def kept(bill, needs, waiting):
    """The needed lots, but none of items that no waiting item is a part of."""
    return tuple([lots if any([part in waiting for part, _ in row[1]]) else () for row, lots in zip(bill, needs)])


def least_more(bill, books, needs, waiting, most):
    """How many pieces the waiting items lack at least, in all, if each is given so many at most."""
    found = list(needs)
    lacking = 0
    for item in waiting:
        pairs = unmade(bill, books, found, item)
        lacking += fewest(bill, books, item, pairs)
        found[item] = lots_for(bill, item, raised(pairs, most))
    return lacking


def first_rows(rows):
    """Of all rows with the same needed lots the first one, with the fewest pieces."""
    # The waiting items lack the same for each of them, so the others cannot become the least help.
    best = {}
    for row in rows:
        if row[2] not in best or row < best[row[2]]:
            best[row[2]] = row
    return list(best.values())


def fewest(bill, books, item, pairs):
    """The fewest pieces of an item with which none of its lots are needed by a day before today."""
    return max([-left for day, left in pairs if day - bill[item][2] < books[0] and left < 0], default=0)


def raised(pairs, pieces):
    """The pairs (day, balance) with so many pieces more."""
    return [(day, left + pieces) for day, left in pairs]
