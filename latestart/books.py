"""Books and plans: whether they are right for a bill, and what books supply and order."""

from latestart.errors import BadBooks, BadPlan

LAST_DAY = 200
MOST_STOCK = 10000
MOST_ENTRIES = 12
MOST_PIECES = 500
MOST_NUMBER = 99


def check_books(bill, books):
    """Raises BadBooks with the first wrong part of books, each of which may be any value."""
    today, stock, receipts, orders = books
    if not is_between(today, 0, LAST_DAY):
        raise BadBooks("today")
    if not is_stock(bill, stock):
        raise BadBooks("stock")
    if not are_receipts(bill, today, receipts):
        raise BadBooks("receipts")
    if not are_orders(bill, today, orders):
        raise BadBooks("orders")


def check_plan(bill, books, plan):
    """Raises BadPlan with the index of the first wrong entry of a plan, each of which may be any value."""
    before = ()
    for at, entry in enumerate(plan):
        if not is_start(bill, books[0], entry) or entry[:2] <= before:
            raise BadPlan(at)
        before = entry[:2]


def supplied(books, item, day):
    """The stock of an item, and its receipts up to a day."""
    received = [quantity for other, when, quantity in books[2] if other == item and when <= day]
    return books[1][item] + sum(received)


def ordered(books, item, day):
    """The quantities of the orders of an item up to a day."""
    return sum([quantity for _, other, quantity, when in books[3] if other == item and when <= day])


def is_integer(value):
    """True if any value is an integer, which True and False are not."""
    return isinstance(value, int) and not isinstance(value, bool)


def is_between(value, least, greatest):
    """True if any value is an integer of this range."""
    return is_integer(value) and least <= value <= greatest


def is_row(value, length):
    """True if any value is a tuple of this length."""
    return isinstance(value, tuple) and len(value) == length


def is_item(bill, value):
    """True if any value is the number of an item."""
    return is_between(value, 0, len(bill) - 1)


def is_stock(bill, stock):
    """True if any value is a stock."""
    return is_row(stock, len(bill)) and all([is_between(pieces, 0, MOST_STOCK) for pieces in stock])


def are_receipts(bill, today, receipts):
    """True if any value is the receipts of books."""
    return is_short_tuple(receipts) and all([is_receipt(bill, today, entry) for entry in receipts])


def are_orders(bill, today, orders):
    """True if any value is the orders of books."""
    if not is_short_tuple(orders) or not all([is_order(bill, today, entry) for entry in orders]):
        return False
    numbers = [entry[0] for entry in orders]
    return numbers == sorted(set(numbers))


def is_short_tuple(value):
    """True if any value is a tuple that is not longer than receipts and orders can be."""
    return isinstance(value, tuple) and len(value) <= MOST_ENTRIES


def is_receipt(bill, today, entry):
    """True if any value is a receipt."""
    if not is_row(entry, 3):
        return False
    item, day, quantity = entry
    return is_item(bill, item) and is_between(day, today, LAST_DAY) and is_between(quantity, 1, MOST_PIECES)


def is_order(bill, today, entry):
    """True if any value is an order."""
    if not is_row(entry, 4):
        return False
    number, item, quantity, day = entry
    # Apart from its number, an order has what a receipt has.
    return is_between(number, 1, MOST_NUMBER) and is_receipt(bill, today, (item, day, quantity))


def is_start(bill, today, entry):
    """True if any value is a start of a plan."""
    if not is_row(entry, 3):
        return False
    item, day, lots = entry
    return is_item(bill, item) and is_between(day, today, LAST_DAY) and is_integer(lots) and lots >= 1
