"""Bills of materials, written as their text."""


def write_bill(bill):
    """The text of a bill: a line for each item, each with a newline behind it."""
    return "".join([line_of(bill, row) for row in bill])


def line_of(bill, row):
    """The line of an item."""
    name, parts, lead, lot, good = row
    written = ", ".join([part_text(bill, part, quantity) for part, quantity in parts])
    return f"{name}: {written}; {lead} days; {lot} yields {good}\n"


def part_text(bill, part, quantity):
    """A part as it stands in a line: without its quantity if this is 1."""
    name = bill[part][0]
    if quantity == 1:
        return name
    return f"{quantity} {name}"
