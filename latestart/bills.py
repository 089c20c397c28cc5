"""Bills of materials, read from their text."""

from latestart.errors import BillFault, NoSuchItem
from latestart.tokens import tokens

MOST_ITEMS = 8
MOST_PARTS = 4
MOST_QUANTITY = 20
MOST_LEAD = 10
MOST_LOT = 50


class LineReader:
    """Takes the tokens of a line one by one; raises BillFault for one that cannot stand there."""

    def __init__(self, line, found):
        self.line = line
        self.found = found
        self.at = 0

    def token(self):
        """The token that is to be taken next."""
        if self.at == len(self.found):
            raise BillFault(self.line, self.at, "end")
        return self.found[self.at]

    def step(self, fits):
        """Passes the next token, which is a fault if it does not fit."""
        if not fits:
            raise BillFault(self.line, self.at, "unexpected")
        self.at += 1

    def take_token(self, kind, string):
        """Takes a token that has to be this one."""
        self.step(self.token() == (kind, string))

    def take_name(self):
        """Takes a name, and returns it."""
        kind, string = self.token()
        self.step(kind == "name")
        return string

    def take_number(self, least, greatest):
        """Takes a number of this range, and returns it."""
        kind, string = self.token()
        self.step(kind == "number" and least <= int(string) <= greatest)
        return int(string)

    def take_end(self):
        """Makes sure that no token is left."""
        if self.at < len(self.found):
            raise BillFault(self.line, self.at, "unexpected")


def read_bill(text):
    """The bill of a text; raises BillFault."""
    rows = read_rows(text)
    numbers = {row[1]: item for item, row in enumerate(rows)}
    bill = tuple([
        (name, numbered_parts(line, parts, numbers), lead, lot, good)
        for line, name, parts, lead, lot, good in rows
    ])
    check_loops(rows, bill)
    return bill


def item_named(bill, name):
    """The number of the item with this name; raises NoSuchItem."""
    for item, row in enumerate(bill):
        if row[0] == name:
            return item
    raise NoSuchItem(name)


def read_rows(text):
    """A row (line, name, parts, lead, lot, good) for each item, with the parts as read_parts gives them."""
    rows = []
    for line, string in enumerate(text.split("\n")):
        found = tokens(string)
        if found:
            row = read_row(line, found)
            if row[1] in [earlier[1] for earlier in rows]:
                raise BillFault(line, 0, "double")
            if len(rows) == MOST_ITEMS:
                raise BillFault(line, 0, "many")
            rows.append(row)
    return rows


def read_row(line, found):
    """The row of a line with these tokens."""
    reader = LineReader(line, found)
    name = reader.take_name()
    reader.take_token("sign", ":")
    parts = read_parts(reader)
    reader.take_token("sign", ";")
    lead = reader.take_number(0, MOST_LEAD)
    reader.take_token("name", "days")
    reader.take_token("sign", ";")
    lot = reader.take_number(1, MOST_LOT)
    reader.take_token("name", "yields")
    good = reader.take_number(1, lot)
    reader.take_end()
    return line, name, parts, lead, lot, good


def read_parts(reader):
    """The parts that come next, as a list of tuples (place of the name, name, quantity)."""
    parts = []
    if reader.token() != ("sign", ";"):
        parts.append(read_part(reader))
        while len(parts) < MOST_PARTS and reader.token() == ("sign", ","):
            reader.take_token("sign", ",")
            parts.append(read_part(reader))
    return parts


def read_part(reader):
    """The part that comes next, as a tuple (place of the name, name, quantity)."""
    quantity = 1
    kind, _ = reader.token()
    if kind == "number":
        quantity = reader.take_number(1, MOST_QUANTITY)
    place = reader.at
    name = reader.take_name()
    return place, name, quantity


def numbered_parts(line, parts, numbers):
    """The parts of a line as in a bill, with the numbers of the items instead of their names."""
    pairs = []
    for place, name, quantity in parts:
        if name not in numbers:
            raise BillFault(line, place, "unknown")
        pairs.append((numbers[name], quantity))
    return tuple(pairs)


def check_loops(rows, bill):
    """Raises BillFault for the first item that is a part of itself."""
    for item, row in enumerate(rows):
        if item in parts_within(bill, item):
            raise BillFault(row[0], 0, "loop")


def parts_within(bill, item):
    """The list of the items that are parts of an item, directly or by other items."""
    within = []
    waiting = [pair[0] for pair in bill[item][1]]
    while waiting:
        other = waiting.pop()
        if other not in within:
            within.append(other)
            waiting.extend([pair[0] for pair in bill[other][1]])
    return within
