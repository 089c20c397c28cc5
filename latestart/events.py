"""Events: what they make of books."""

from latestart.balances import balance
from latestart.books import check_books
from latestart.errors import BadBooks, NoSuchOrder
from latestart.latest import starts_today


def after_day(bill, books):
    """The books when a day has gone by as the latest plan says; raises NoPlan and BadBooks."""
    today, _, receipts, orders = books
    plan = [(item, today, lots) for item, lots in starts_today(bill, books)]
    # What today yields of lots with a lead of 0 is in the balances of today.
    stock = [balance(bill, books, plan, item, today) for item in range(len(bill))]
    coming = [entry for entry in receipts if entry[1] != today]
    coming.extend([(item, day + bill[item][2], lots * bill[item][4]) for item, day, lots in plan if bill[item][2] > 0])
    waiting = [order for order in orders if order[3] != today]
    behind = (today + 1, tuple(stock), tuple(coming), tuple(waiting))
    check_books(bill, behind)
    return behind


def after_event(bill, books, event):
    """The books behind an event; raises NoPlan, NoSuchOrder and BadBooks."""
    if event[0] == "day":
        return after_day(bill, books)
    behind = changed_books(books, event)
    check_books(bill, behind)
    return behind


def changed_books(books, event):
    """The books behind an event other than a day, be they right or not."""
    today, stock, receipts, orders = books
    match event:
        case ("moved", k, day):
            receipts = moved(receipts, k, day)
        case ("changed", k, quantity):
            receipts = changed(receipts, k, quantity)
        case ("expected", item, day, quantity):
            receipts = (*receipts, (item, day, quantity))
        case ("counted", item, quantity):
            stock = counted(stock, item, quantity)
        case ("scrapped", item, quantity):
            stock = scrapped(stock, item, quantity)
        case ("ordered", number, item, quantity, day):
            orders = tuple(sorted([*others(orders, number), (number, item, quantity, day)]))
        case ("cancelled", number):
            orders = cancelled(orders, number)
    return today, stock, receipts, orders


def moved(receipts, k, day):
    """The receipts with another day of one of them."""
    check_index(receipts, k, "receipts")
    item, _, quantity = receipts[k]
    return *receipts[:k], (item, day, quantity), *receipts[k + 1:]


def changed(receipts, k, quantity):
    """The receipts with another quantity of one of them; without it if this is 0."""
    check_index(receipts, k, "receipts")
    if quantity == 0:
        return receipts[:k] + receipts[k + 1:]
    item, day, _ = receipts[k]
    return *receipts[:k], (item, day, quantity), *receipts[k + 1:]


def counted(stock, item, quantity):
    """The stock with another number of pieces of an item."""
    check_index(stock, item, "stock")
    return *stock[:item], quantity, *stock[item + 1:]


def scrapped(stock, item, quantity):
    """The stock with so many pieces of an item less."""
    check_index(stock, item, "stock")
    return counted(stock, item, stock[item] - quantity)


def cancelled(orders, number):
    """The orders without the one with a number; raises NoSuchOrder."""
    left = others(orders, number)
    if len(left) == len(orders):
        raise NoSuchOrder(number)
    return tuple(left)


def others(orders, number):
    """The list of the orders with other numbers."""
    return [order for order in orders if order[0] != number]


def check_index(rows, at, word):
    """Raises BadBooks with a word if there is no such index."""
    if not 0 <= at < len(rows):
        raise BadBooks(word)
