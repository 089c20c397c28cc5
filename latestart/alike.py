"""Bills that are alike: they have the same needed lots for all books; others are parted by books."""

from latestart.books import MOST_STOCK

DAY = 100


def taken_by_lot(bill, item, other):
    """How many pieces of the other item a lot of an item takes."""
    return bill[item][3] * sum([quantity for part, quantity in bill[item][1] if part == other])


def are_alike(one, two):
    """True if two bills are alike."""
    return len(one) == len(two) and parting_books(one, two) is None


def parting_books(one, two):
    """Books for which the needed lots of two bills differ; None if they are alike."""
    for item in range(len(one)):
        if one[item][2] != two[item][2]:
            return one_order(one, item, 1, {item: 0})
        if one[item][4] != two[item][4]:
            return one_order(one, item, max(one[item][4], two[item][4]), {item: 0})
        for other in range(len(one)):
            pieces = taken_by_lot(one, item, other)
            more = taken_by_lot(two, item, other)
            if pieces != more:
                return one_order(one, item, 1, {item: 0, other: min(pieces, more)})
    return None


def one_order(bill, item, quantity, few):
    """Books with an order of an item, and the most stock of all items but for those of which there are few."""
    stock = tuple([few.get(other, MOST_STOCK) for other in range(len(bill))])
    return 0, stock, (), ((1, item, quantity, DAY),)
