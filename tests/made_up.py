"""Bills, books and plans for the tests, made up from a seed: the same ones in every run."""

import random

NAMES = ("wheel", "days", "a", "ab", "abcdefghijkl", "yields", "b", "z")


def made_up(many, seed, most_items=8):
    """Yields bills and books that are right for them."""
    chance = random.Random(seed)
    for _ in range(many):
        bill = made_bill(chance, chance.randint(0, most_items))
        yield bill, made_books(chance, bill)


def made_up_plans(many, seed, most_items=8):
    """Yields bills, books and plans that are right for them."""
    chance = random.Random(seed)
    for bill, books in made_up(many, seed, most_items):
        yield bill, books, made_plan(chance, bill, books)


def made_bill(chance, size):
    """A bill of this size, in which any item may be the first one that others use."""
    order = list(range(size))
    chance.shuffle(order)
    most = chance.choice((2, 20))
    rows = []
    for item in range(size):
        below = order[order.index(item) + 1:]
        parts = tuple((chance.choice(below), chance.randint(1, most))
                      for _ in range(chance.choice((0, 1, 1, 2, 2, 3, 4))) if below)
        lot = chance.choice((1, 1, 2, 3, 10, 50))
        rows.append((NAMES[item], parts, chance.choice((0, 0, 1, 2, 3, 10)), lot, chance.randint(1, lot)))
    return tuple(rows)


def made_books(chance, bill):
    """Right books, with few or many entries, on days that lie close together or far apart."""
    today = chance.choice((0, 1, 7, 50, 100, 199, 200))
    latest = min(200, today + chance.choice((3, 12, 40, 200)))
    stock = tuple(chance.choice((0, 0, 1, chance.randint(0, 30), chance.randint(0, 10000))) for _ in bill)
    receipts = ()
    orders = ()
    if bill:
        receipts = tuple((chance.randrange(len(bill)), chance.randint(today, latest), made_quantity(chance))
                         for _ in range(chance.choice((0, 1, 3, 12))))
        numbers = sorted(chance.sample(range(1, 100), chance.choice((0, 1, 2, 5, 12))))
        orders = tuple((number, chance.randrange(len(bill)), made_quantity(chance), chance.randint(today, latest))
                       for number in numbers)
    return today, stock, receipts, orders


def made_plan(chance, bill, books):
    """A right plan, which works only by chance."""
    today = books[0]
    latest = min(200, today + chance.choice((3, 12, 200)))
    places = sorted({(item, chance.randint(today, latest))
                     for item in range(len(bill)) for _ in range(chance.choice((0, 1, 2, 6)))})
    return tuple((item, day, chance.choice((1, 2, 3, 40))) for item, day in places)


def made_small(many, seed, most_items=5):
    """Yields bills and books with small numbers; for about half of them some plan works."""
    chance = random.Random(seed)
    for at in range(many):
        bill = small_bill(chance, chance.randint(1, most_items))
        yield bill, small_books(chance, bill, at % 2 * chance.randint(0, 15))


def small_bill(chance, size):
    """A bill of this size with small quantities, leads and lots."""
    pairs = ((1, 1), (1, 1), (2, 1), (2, 2), (3, 2), (4, 4))
    rows = []
    for name, parts, _, _, _ in made_bill(chance, size):
        parts = tuple((part, chance.choice((1, 1, 2, 3))) for part, _ in parts)
        rows.append((name, parts, chance.choice((0, 1, 1, 2, 3)), *chance.choice(pairs)))
    return tuple(rows)


def small_books(chance, bill, ahead):
    """Right books with few pieces, and orders from so many days ahead on."""
    today = chance.choice((0, 1, 7, 100, 170))
    stock = tuple(chance.choice((0, 0, 1, 2, 9)) for _ in bill)
    receipts = tuple((chance.randrange(len(bill)), today + chance.randint(0, 12), chance.randint(1, 9))
                     for _ in range(chance.choice((0, 1, 2, 4))))
    numbers = sorted(chance.sample(range(1, 100), chance.choice((1, 2, 3, 6))))
    orders = tuple((number, chance.randrange(len(bill)), chance.randint(1, 6), today + ahead + chance.randint(0, 9))
                   for number in numbers)
    return today, stock, receipts, orders


def made_event(chance, bill, books):
    """An event, now and then one that books refuse."""
    today, _, receipts, orders = books
    item = chance.randint(0, max(len(bill) - 1, 0))
    day = today + chance.choice((0, 1, 2, 5, 9, 14, 20, chance.choice((-1, 200))))
    quantity = chance.choice((1, 2, 3, 5, 8, chance.choice((0, 500, 501))))
    k = chance.randint(0, max(len(receipts) - chance.choice((0, 1, 1, 1)), 0))
    number = chance.choice([order[0] for order in orders] + [chance.randint(1, 99)])
    return chance.choice((
        ("day",), ("day",), ("moved", k, day), ("changed", k, quantity), ("changed", k, 0),
        ("expected", item, day, quantity), ("counted", item, chance.choice((0, 1, 4, 10, 10001))),
        ("scrapped", item, chance.choice((0, 1, 1, 3))), ("ordered", number, item, quantity, day),
        ("ordered", chance.randint(1, 99), item, quantity, day), ("cancelled", number)))


def made_quantity(chance):
    return chance.choice((1, 2, chance.randint(1, 20), chance.randint(1, 500)))
