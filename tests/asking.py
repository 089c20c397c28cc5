"""What plans and desks tell, asked in a way that tests can hold against each other."""

from latestart.errors import NoPlan, NothingToUndo
from latestart.latest import latest_plan


def plan_or_none(bill, books):
    """The latest plan; None if no plan works."""
    try:
        return latest_plan(bill, books)
    except NoPlan:
        return None


def books_of(desk):
    return desk.books()


def undone_all(desk, told=books_of):
    """What a desk tells behind each undoing, until nothing is left to undo."""
    found = []
    while True:
        try:
            desk.undo()
        except NothingToUndo:
            return found
        found.append(told(desk))
