"""A desk: books that events change, and their needed lots, of which only those are reckoned that may change."""

from latestart.errors import NoPlan, NothingToUndo
from latestart.events import after_event
from latestart.latest import in_time, plan_of
from latestart.levels import parents_first, used_by
from latestart.needs import needed, needed_of
from latestart.papers import facts_of


class Desk:
    """A bill and books with their needed lots, and the books and needed lots ahead of each event that was taken."""

    def __init__(self, bill, books):
        self._bill = bill
        self._books = books
        self._needs = needed(bill, books)
        self._work = list(parents_first(bill))
        self._earlier = []

    def bill(self):
        """The bill."""
        return self._bill

    def books(self):
        """The present books."""
        return self._books

    def needs(self):
        """The needed lots of all items for the present books."""
        return self._needs

    def can_work(self):
        """True if some plan works for the present books."""
        return in_time(self._books, self._needs)

    def plan(self):
        """The latest plan for the present books; raises NoPlan."""
        if not self.can_work():
            raise NoPlan()
        return plan_of(self._needs)

    def paper(self):
        """The paper of the present books."""
        return facts_of(self._bill, self._needs)

    def take(self, event):
        """Takes an event; raises NoPlan, NoSuchOrder and BadBooks."""
        books = after_event(self._bill, self._books, event)
        if event[0] == "day":
            needs, work = needed(self._bill, books), list(parents_first(self._bill))
        else:
            needs, work = needed_anew(self._bill, self._books, books, self._needs)
        self._earlier.append((self._books, self._needs))
        self._books = books
        self._needs = needs
        self._work = work

    def undo(self):
        """Undoes the last event that is not undone; raises NothingToUndo."""
        if not self._earlier:
            raise NothingToUndo()
        self._books, self._needs = self._earlier.pop()
        self._work = []

    def work(self):
        """The list of the items that were reckoned by the last deed, in the order in which they were."""
        return list(self._work)

    def look(self, events):
        """The books and the needed lots behind a list of events; raises NoPlan, NoSuchOrder and BadBooks."""
        books = self._books
        for event in events:
            books = after_event(self._bill, books, event)
        return books, needed(self._bill, books)


def needed_anew(bill, earlier, books, needs):
    """The needed lots for books of the same day as earlier ones, which have needs, and the list of items reckoned."""
    found = list(needs)
    work = []
    for item in parents_first(bill):
        users = [user for user, _ in used_by(bill, item)]
        same = lines_of(books, item) == lines_of(earlier, item) and all([found[user] == needs[user] for user in users])
        if not same:
            found[item] = needed_of(bill, books, found, item)
            work.append(item)
    return tuple(found), work


def lines_of(books, item):
    """The stock, the receipts and the orders of an item."""
    receipts = [entry for entry in books[2] if entry[0] == item]
    orders = [entry for entry in books[3] if entry[1] == item]
    return books[1][item], receipts, orders
