"""Logs: a bill, books and events as bytes, and the desk that they give when they are read again."""

from latestart.bills import read_bill
from latestart.books import check_books
from latestart.desk import Desk
from latestart.errors import BadBooks, BillFault, InvalidBytes, NoPlan, NoSuchOrder
from latestart.tokens import DIGITS, LETTERS, SIGNS
from latestart.writing import write_bill

BASE = 128
WORDS = ("day", "moved", "changed", "expected", "counted", "scrapped", "ordered", "cancelled")
# How many integers stand behind each word.
LENGTHS = (0, 2, 2, 3, 2, 2, 4, 1)


class Taker:
    """Takes integers from a list, one behind the other; raises InvalidBytes if it has too few."""

    def __init__(self, numbers):
        self.numbers = numbers
        self.at = 0

    def some(self, many):
        """Takes so many integers, as a tuple."""
        taken = self.numbers[self.at:self.at + many]
        if len(taken) < many:
            raise InvalidBytes(0)
        self.at += many
        return tuple(taken)

    def one(self):
        """Takes an integer."""
        return self.some(1)[0]

    def rows(self, width):
        """Takes the number of rows, and the rows, with so many integers each."""
        return tuple([self.some(width) for _ in range(self.one())])

    def nothing(self):
        """Makes sure that no integer is left."""
        if self.at < len(self.numbers):
            raise InvalidBytes(0)


def number_bytes(n):
    """The list of the bytes of an integer: its digits, the lowest first, all but the last one with 128 added."""
    found = []
    while n >= BASE:
        found.append(n % BASE + BASE)
        n = n // BASE
    found.append(n)
    return found


def read_number(data, at):
    """The integer at an index, and the index behind it; None if there is none."""
    number = 0
    scale = 1
    end = at
    while end < len(data) and data[end] >= BASE:
        number += (data[end] - BASE) * scale
        scale *= BASE
        end += 1
    # With a last digit 0, the integer would be written with fewer digits, unless it is 0 itself.
    if end >= len(data) or (data[end] == 0 and end > at):
        return None
    return number + data[end] * scale, end + 1


def record_of(body):
    """The bytes of the record with a body."""
    return [*number_bytes(len(body)), *body, *number_bytes(sum_of(body))]


def read_record(data, at):
    """The body of the record at an index, and the index behind it; None if no whole record is there."""
    length = read_number(data, at)
    if length is None:
        return None
    many, start = length
    body = list(data[start:start + many])
    told = read_number(data, start + many)
    if told is None or told[0] != sum_of(body):
        return None
    return body, told[1]


def event_bytes(event):
    """The body of the record of an event."""
    return integer_bytes([WORDS.index(event[0]), *event[1:]])


def start_bytes(bill, books):
    """The body of the record of a bill and books."""
    today, stock, receipts, orders = books
    text = write_bill(bill)
    numbers = [today, *stock, len(receipts)]
    for receipt in receipts:
        numbers.extend(receipt)
    numbers.append(len(orders))
    for order in orders:
        numbers.extend(order)
    return [*number_bytes(len(text)), *[ord(character) for character in text], *integer_bytes(numbers)]


def log_of(bill, books, events):
    """The bytes of a log."""
    data = record_of(start_bytes(bill, books))
    for event in events:
        data.extend(record_of(event_bytes(event)))
    return data


def opened(data):
    """The desk behind the records that can be taken, and the index behind the last of them; raises InvalidBytes."""
    start = read_record(data, 0)
    if start is None:
        raise InvalidBytes(0)
    body, at = start
    desk = desk_of(body)
    found = read_event(data, at)
    while found is not None and takes(desk, found[0]):
        at = found[1]
        found = read_event(data, at)
    return desk, at


def sum_of(body):
    """The sum of the bytes of a body."""
    total = 5
    for byte in body:
        total = (131 * total + byte) % 65521
    return total


def integer_bytes(numbers):
    """The list of the bytes of several integers."""
    return [byte for number in numbers for byte in number_bytes(number)]


def integers_of(body):
    """The list of the integers of which a body consists; None if it does not consist of integers."""
    numbers = []
    at = 0
    while at < len(body):
        found = read_number(body, at)
        if found is None:
            return None
        number, at = found
        numbers.append(number)
    return numbers


def text_of(codes):
    """The text with these codes; raises InvalidBytes for one that is of no character of a bill."""
    characters = {ord(character): character for character in LETTERS + DIGITS + SIGNS + " \n"}
    if any([code not in characters for code in codes]):
        raise InvalidBytes(0)
    return "".join([characters[code] for code in codes])


def desk_of(body):
    """The desk with the bill and the books of a first record; raises InvalidBytes."""
    numbers = integers_of(body)
    if numbers is None:
        raise InvalidBytes(0)
    taker = Taker(numbers)
    # The codes of all characters are below 128, so each of them is an integer of one byte.
    text = text_of(taker.some(taker.one()))
    try:
        bill = read_bill(text)
        books = (taker.one(), taker.some(len(bill)), taker.rows(3), taker.rows(4))
        taker.nothing()
        check_books(bill, books)
    except (BillFault, BadBooks):
        raise InvalidBytes(0) from None
    return Desk(bill, books)


def read_event(data, at):
    """The event of the record at an index, and the index behind it; None if there is no record with an event."""
    record = read_record(data, at)
    if record is None:
        return None
    body, end = record
    numbers = integers_of(body)
    if not numbers or numbers[0] >= len(WORDS) or len(numbers) != 1 + LENGTHS[numbers[0]]:
        return None
    return (WORDS[numbers[0]], *numbers[1:]), end


def takes(desk, event):
    """True if a desk takes an event, False if this raises an error."""
    try:
        desk.take(event)
    except (BadBooks, NoPlan, NoSuchOrder):
        return False
    return True
