"""The levels of a bill: which items use which, and how long all that is below an item takes."""


def parents_first(bill):
    """The tuple of the items, each behind all items that use it, and the least numbers first."""
    users = [[user for user, _ in used_by(bill, item)] for item in range(len(bill))]
    waiting = list(range(len(bill)))
    taken = []
    while waiting:
        free = [item for item in waiting if not any([user in waiting for user in users[item]])]
        taken.append(free[0])
        waiting.remove(free[0])
    return tuple(taken)


def used_by(bill, item):
    """The list of the pairs (p, quantity) of the items p that use an item, by rising p."""
    pairs = []
    for user, row in enumerate(bill):
        quantity = sum([many for part, many in row[1] if part == item])
        if quantity > 0:
            pairs.append((user, quantity))
    return pairs


def whole_lead(bill, item):
    """The lead of an item and of the longest chain of parts below it."""
    leads = {}
    # Parts last first, so that the whole leads of all parts of an item are there when it is its turn.
    for other in reversed(parents_first(bill)):
        parts = bill[other][1]
        leads[other] = bill[other][2] + max([leads[part] for part, _ in parts], default=0)
    return leads[item]
