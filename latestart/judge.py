"""The judge of plans and papers. It does not plan: it holds facts and starts against bill and books alone."""

from latestart.balances import shortages, started
from latestart.books import ordered, supplied
from latestart.levels import used_by


def follows(bill, books, facts, fact):
    """True if a fact follows from a list of facts."""
    item, day, lots = fact
    lead, good = bill[item][2], bill[item][4]
    taken = ordered(books, item, day + lead)
    for user, quantity in used_by(bill, item):
        taken += quantity * bill[user][3] * shown_by(facts, user, day + lead)
    return taken > supplied(books, item, day + lead) + (lots - 1) * good


def first_wrong(bill, books, paper):
    """The index of the first fact that does not follow from those ahead of it; None if a paper is right."""
    for at, fact in enumerate(paper):
        if not follows(bill, books, paper[:at], fact):
            return at
    return None


def shows_none(bill, books, paper):
    """True if a paper is right and shows that no plan works."""
    return any([day < books[0] for _, day, _ in paper]) and first_wrong(bill, books, paper) is None


def judge(bill, books, plan, paper):
    """What is wrong with a plan and a paper, as a tuple; None if the plan is shown to be the latest one."""
    short = shortages(bill, books, plan)
    if short:
        return "short", short[0][0], short[0][1]
    wrong = first_wrong(bill, books, paper)
    if wrong is not None:
        return "fact", wrong
    for at, (item, day, _) in enumerate(plan):
        if shown_by(paper, item, day) < started(plan, item, day):
            return "early", at
    return None


def shown_by(facts, item, day):
    """The lots of an item that facts show to be started by a day."""
    return max([lots for other, when, lots in facts if other == item and when <= day], default=0)
