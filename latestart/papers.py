"""The paper of books: all needed lots as facts, each of which follows from those ahead of it."""

from latestart.levels import parents_first
from latestart.needs import needed


def paper_of(bill, books):
    """The list of the facts (item, day, lots), parents first, by rising days."""
    return facts_of(bill, needed(bill, books))


def facts_of(bill, needs):
    """The paper with these needed lots."""
    return [(item, day, lots) for item in parents_first(bill) for day, lots in needs[item]]
