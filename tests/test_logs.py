"""[l1] to [l3]: integers and records as bytes, logs, and the desks that they give."""

import random
import unittest

from latestart.bills import read_bill
from latestart.desk import Desk
from latestart.errors import InvalidBytes, PlanError
from latestart.logs import (event_bytes, log_of, number_bytes, opened, read_number, read_record, record_of,
                            start_bytes)
from latestart.needs import needed
from latestart.writing import write_bill

from tests.asking import undone_all
from tests.made_up import made_event, made_small, made_up

EXAMPLE = read_bill("wheel: ; 3 days; 4 yields 4\nbicycle: 2 wheel; 2 days; 1 yields 1")
BOOKS = (1, (300, 0), ((0, 9, 128), (1, 2, 3)), ((1, 1, 2, 200),))

# What EXAMPLE and BOOKS are, as the body of a record.
BODY = [ord(char) for char in "Awheel: ; 3 days; 4 yields 4\nbicycle: 2 wheel; 2 days; 1 yields 1\n"] + [
    1, 172, 2, 0, 2, 0, 9, 128, 1, 1, 2, 3, 1, 1, 1, 2, 200, 1]

EVENTS = (("day",), ("moved", 1, 4), ("changed", 0, 300), ("expected", 1, 5, 1), ("counted", 0, 129),
          ("scrapped", 0, 1), ("ordered", 2, 0, 3, 8), ("cancelled", 1))
EVENT_BODIES = ([0], [1, 1, 4], [2, 0, 172, 2], [3, 1, 5, 1], [4, 0, 129, 1], [5, 0, 1], [6, 2, 0, 3, 8], [7, 1])


def number_again(n):
    """[l1], with the digits of an integer as a text of bits."""
    bits = bin(n)[2:]
    bits = "0" * (-len(bits) % 7) + bits
    digits = [int(bits[at:at + 7], 2) for at in range(0, len(bits), 7)][::-1]
    return [digit + 128 for digit in digits[:-1]] + digits[-1:]


def record_again(body):
    """[l1], with the sum reckoned from all bytes at once."""
    total = sum(byte * pow(131, len(body) - at, 65521) for at, byte in enumerate([5, *body]))
    return number_again(len(body)) + list(body) + number_again(total % 65521)


def made_rows(chance, bill, books, many):
    """Events that a desk takes one after the other, and the books ahead of and behind each of them."""
    desk = Desk(bill, books)
    events, rows = [], [books]
    for _ in range(many):
        event = made_event(chance, bill, desk.books())
        try:
            desk.take(event)
        except PlanError:
            continue
        events.append(event)
        rows.append(desk.books())
    return events, rows


class Numbers(unittest.TestCase):
    def test_about_the_powers_of_128(self):
        for n, data in ((0, [0]), (1, [1]), (127, [127]), (128, [128, 1]), (129, [129, 1]), (255, [255, 1]),
                        (256, [128, 2]), (16383, [255, 127]), (16384, [128, 128, 1]), (16385, [129, 128, 1]),
                        (2097151, [255, 255, 127]), (2097152, [128, 128, 128, 1]), (300, [172, 2])):
            with self.subTest(n=n):
                self.assertEqual(number_bytes(n), data)
                self.assertEqual(read_number(data, 0), (n, len(data)))

    def test_great_integers(self):
        for n in (10 ** 30, 128 ** 50 - 1, 128 ** 50, 128 ** 50 + 1, 2 ** 1000):
            data = number_bytes(n)
            self.assertEqual(data, number_again(n))
            self.assertEqual(read_number(data, 0), (n, len(data)))

    def test_many_integers(self):
        for n in [*range(3000), *range(16000, 16800), *range(2097000, 2097400)]:
            data = number_bytes(n)
            self.assertEqual(data, number_again(n))
            self.assertEqual(read_number(data, 0), (n, len(data)))

    def test_a_list_of_bytes(self):
        self.assertIs(type(number_bytes(5)), list)
        self.assertTrue(all(type(byte) is int and 0 <= byte < 256 for n in range(300) for byte in number_bytes(n)))

    def test_at_an_index(self):
        data = [7, 172, 2, 0, 128, 128, 1, 9]
        self.assertEqual([read_number(data, at) for at in range(8)], [
            (7, 1), (300, 3), (2, 3), (0, 4), (16384, 7), (128, 7), (1, 7), (9, 8)])

    def test_none_at_or_behind_the_end(self):
        for data in ([], [0], [5], [172, 2]):
            for at in (0, 1, 2, 7, 10 ** 30):
                if at >= len(data):
                    self.assertIsNone(read_number(data, at))

    def test_none_that_is_cut(self):
        for data in ([128], [172], [255, 255], [128, 128, 128]):
            self.assertIsNone(read_number(data, 0))
            self.assertIsNone(read_number([1, *data], 1))
            self.assertIsNotNone(read_number([*data, 1], 0))

    def test_none_whose_last_digit_is_0(self):
        for data in ([128, 0], [172, 0], [255, 0], [129, 130, 0], [128, 128, 0], [128, 0, 1]):
            self.assertIsNone(read_number(data, 0))
            self.assertIsNone(read_number([5, *data], 1))
        self.assertEqual(read_number([128, 0], 1), (0, 2))
        self.assertEqual(read_number([129, 0, 0], 2), (0, 3))

    def test_every_two_bytes_are_read_as_they_are_written_or_not_at_all(self):
        for one in range(256):
            for two in range(256):
                found = read_number([one, two], 0)
                if found is None:
                    self.assertTrue(one >= 128 and (two == 0 or two >= 128))
                else:
                    self.assertEqual(number_again(found[0]), [one, two][:found[1]])


class Records(unittest.TestCase):
    def test_the_empty_body(self):
        self.assertEqual(record_of([]), [0, 5])
        self.assertEqual(read_record([0, 5], 0), ([], 2))

    def test_the_sum(self):
        # 5 * 131 + 7 is 662; 662 * 131 + 9 is 86731, and this is 65521 and 21210.
        self.assertEqual(record_of([7]), [1, 7, 150, 5])
        self.assertEqual(record_of([7, 9]), [2, 7, 9, 218, 165, 1])

    def test_made_up_bodies(self):
        chance = random.Random("records")
        for length in [*range(20), 126, 127, 128, 129, 300, 16383, 16384, 16385]:
            body = [chance.choice((0, 1, 127, 128, 255, chance.randint(0, 255))) for _ in range(length)]
            data = record_of(body)
            self.assertEqual(data, record_again(body))
            self.assertEqual(read_record(data, 0), (body, len(data)))
            self.assertEqual(read_record([9, 9, *data, 9], 2), (body, len(data) + 2))

    def test_several_in_a_row(self):
        bodies = ([], [1, 2, 3], [0], [255] * 200, [])
        data = [byte for body in bodies for byte in record_of(body)]
        at = 0
        for body in bodies:
            found, at = read_record(data, at)
            self.assertEqual(found, body)
        self.assertEqual(at, len(data))
        self.assertIsNone(read_record(data, at))

    def test_a_cut_record(self):
        for body in ([], [7], [0, 0], [5] * 200):
            data = record_of(body)
            for end in range(len(data)):
                self.assertIsNone(read_record(data[:end], 0))
                self.assertIsNone(read_record([0, *data[:end]], 1))

    def test_no_record_at_or_behind_the_end(self):
        for at in (2, 3, 10 ** 30):
            self.assertIsNone(read_record([0, 5], at))

    def test_a_wrong_sum(self):
        for body in ([], [7], [7, 9], [1, 2, 3, 4]):
            data = record_of(body)
            for at in range(1, len(data)):
                for more in (1, 5, 127):
                    self.assertIsNone(read_record([*data[:at], (data[at] + more) % 256, *data[at + 1:], 1], 0))

    def test_a_sum_of_65521_or_more(self):
        self.assertIsNone(read_record([0, *number_again(5 + 65521)], 0))
        self.assertIsNone(read_record([1, 7, *number_again(662 + 65521)], 0))
        body = next([one, two, -131 * (131 * (655 + one) + two) % 65521] for one in range(256) for two in range(256)
                    if -131 * (131 * (655 + one) + two) % 65521 < 256)
        self.assertEqual(record_of(body), [3, *body, 0])
        self.assertIsNone(read_record([3, *body, *number_again(65521)], 0))

    def test_a_length_or_a_sum_that_is_written_otherwise(self):
        self.assertIsNone(read_record([128, 0, 5], 0))
        self.assertIsNone(read_record([0, 133, 0], 0))
        self.assertIsNone(read_record([129, 0, 7, 150, 5], 0))
        self.assertIsNone(read_record([1, 7, 150, 133, 0], 0))

    def test_a_length_beyond_the_end(self):
        for length in (4, 10, 10 ** 40):
            self.assertIsNone(read_record([*number_again(length), 1, 2, 3], 0))

    def test_the_body_is_a_new_list(self):
        body = [1, 2, 3]
        data = record_of(body)
        data[1] = 200
        self.assertEqual(body, [1, 2, 3])
        data = record_of(body)
        found, _ = read_record(data, 0)
        found[0] = 200
        self.assertEqual(data, record_of([1, 2, 3]))


class Bodies(unittest.TestCase):
    def test_each_kind_of_event(self):
        for event, body in zip(EVENTS, EVENT_BODIES, strict=True):
            with self.subTest(event=event):
                self.assertEqual(event_bytes(event), body)
        self.assertEqual(event_bytes(("expected", 7, 200, 500)), [3, 7, 200, 1, 244, 3])
        self.assertEqual(event_bytes(("counted", 7, 10000)), [4, 7, 144, 78])

    def test_a_small_bill(self):
        self.assertEqual(start_bytes(EXAMPLE, BOOKS), BODY)
        self.assertEqual(start_bytes(EXAMPLE, (0, (0, 127), (), ())), [*BODY[:66], 0, 0, 127, 0, 0])

    def test_a_long_text(self):
        bill = tuple((name * 12, (), 10, 50, 50) for name in "abcd")
        self.assertEqual(start_bytes(bill, (200, (1, 2, 3, 4), (), ())),
                         [152, 1, *[ord(char) for char in write_bill(bill)], 200, 1, 1, 2, 3, 4, 0, 0])

    def test_the_empty_bill(self):
        self.assertEqual(start_bytes((), (0, (), (), ())), [0, 0, 0, 0])
        self.assertEqual(start_bytes((), (200, (), (), ())), [0, 200, 1, 0, 0])

    def test_logs(self):
        self.assertEqual(log_of((), (0, (), (), ()), []), record_again([0, 0, 0, 0]))
        self.assertEqual(log_of((), (0, (), (), ()), [("day",), ("day",)]),
                         record_again([0, 0, 0, 0]) + record_again([0]) * 2)
        self.assertEqual(log_of(EXAMPLE, BOOKS, []), record_again(BODY))
        expected = record_again(BODY)
        for body in EVENT_BODIES:
            expected.extend(record_again(body))
        self.assertEqual(log_of(EXAMPLE, BOOKS, list(EVENTS)), expected)


class Logs(unittest.TestCase):
    def expect(self, data, bill, rows, at):
        """The log gives the desk behind these books, one row of which is taken back by each undoing."""
        desk, end = opened(data)
        self.assertEqual(end, at)
        self.assertIs(type(desk), Desk)
        self.assertEqual((desk.bill(), desk.books(), desk.needs()), (bill, rows[-1], needed(bill, rows[-1])))
        self.assertEqual(undone_all(desk), rows[-2::-1])

    def expect_invalid(self, data):
        with self.assertRaises(InvalidBytes) as context:
            opened(data)
        self.assertEqual(context.exception.at, 0)


class Opened(Logs):
    def test_a_log_without_events(self):
        for bill, books in [((), (0, (), (), ())), (EXAMPLE, BOOKS), *made_up(100, "opened")]:
            data = log_of(bill, books, [])
            with self.subTest(bill=bill, books=books):
                self.expect(data, bill, [books], len(data))

    def test_each_kind_of_event(self):
        for event in EVENTS:
            desk = Desk(EXAMPLE, BOOKS)
            desk.take(event)
            data = log_of(EXAMPLE, BOOKS, [event])
            with self.subTest(event=event):
                self.expect(data, EXAMPLE, [BOOKS, desk.books()], len(data))

    def test_the_work_is_that_of_the_last_event(self):
        self.assertEqual(opened(log_of(EXAMPLE, BOOKS, []))[0].work(), [1, 0])
        self.assertEqual(opened(log_of(EXAMPLE, BOOKS, [("counted", 0, 301)]))[0].work(), [0])
        self.assertEqual(opened(log_of(EXAMPLE, BOOKS, [("day",), ("counted", 0, 300)]))[0].work(), [])

    def test_a_log_that_is_cut_at_every_index(self):
        chance = random.Random("cut")
        for bill, books in [(EXAMPLE, BOOKS), ((), (0, (), (), ())), *made_small(12, "cut")]:
            events, rows = made_rows(chance, bill, books, 6) if bill else ([("day",)], [books, (1, (), (), ())])
            ends = [len(log_of(bill, books, events[:many])) for many in range(len(events) + 1)]
            data = log_of(bill, books, events)
            for cut in range(len(data) + 1):
                whole = [end for end in ends if end <= cut]
                with self.subTest(bill=bill, books=books, events=events, cut=cut):
                    if whole:
                        self.expect(data[:cut], bill, rows[:len(whole)], whole[-1])
                    else:
                        self.expect_invalid(data[:cut])

    def test_a_log_with_a_byte_changed_at_every_index(self):
        events, rows = [("counted", 0, 299), ("expected", 1, 7, 130), ("day",), ("cancelled", 1)], [BOOKS]
        desk = Desk(EXAMPLE, BOOKS)
        for event in events:
            desk.take(event)
            rows.append(desk.books())
        data = log_of(EXAMPLE, BOOKS, events)
        ends = [len(log_of(EXAMPLE, BOOKS, events[:many])) for many in range(5)]
        for at in range(len(data)):
            for more in (1, 127, 128, 255):
                changed = [*data[:at], (data[at] + more) % 256, *data[at + 1:]]
                whole = [end for end in ends if end <= at]
                with self.subTest(at=at, more=more):
                    if whole:
                        self.expect(changed, EXAMPLE, rows[:len(whole)], whole[-1])
                    else:
                        self.expect_invalid(changed)

    def test_made_up_events(self):
        chance = random.Random("log")
        taken = 0
        for bill, books in made_small(60, "log"):
            events, rows = made_rows(chance, bill, books, 8)
            taken += len(events)
            data = log_of(bill, books, events)
            with self.subTest(bill=bill, books=books, events=events):
                self.expect(data, bill, rows, len(data))
        self.assertGreater(taken, 250)

    def test_it_goes_on_as_the_one_that_was_never_closed(self):
        chance = random.Random("goes on")
        for bill, books in made_small(40, "goes on"):
            one = Desk(bill, books)
            events, _ = made_rows(chance, bill, books, 4)
            for event in events:
                one.take(event)
            two, _ = opened(log_of(bill, books, events))
            for _ in range(6):
                event = made_event(chance, bill, one.books())
                with self.subTest(bill=bill, books=books, events=events, event=event):
                    self.assertEqual(self.deed(one, event), self.deed(two, event))
            self.assertEqual(undone_all(one), undone_all(two))

    def deed(self, desk, event):
        """What a desk tells behind an event, be it taken or refused."""
        error = None
        try:
            desk.take(event)
        except PlanError as caught:
            error = (caught.__class__, vars(caught))
        return (error, desk.books(), desk.needs(), desk.can_work(), desk.paper(), desk.work(),
                desk.plan() if desk.can_work() else None)


class RecordsBehind(Logs):
    """Records behind the first one that are not taken, and what stands behind them."""

    START = record_again(BODY)

    def expect_stop(self, body):
        """The record with this body is not taken, and no event behind it is."""
        data = self.START + record_again(body)
        for more in ([], record_again([4, 0, 1])):
            with self.subTest(body=body, more=more):
                self.expect(data + more, EXAMPLE, [BOOKS], len(self.START))
        # Nor is it behind an event that is.
        first = self.START + record_again([4, 0, 9])
        rows = [BOOKS, (BOOKS[0], (9, 0), *BOOKS[2:])]
        with self.subTest(body=body):
            self.expect(first + record_again(body) + record_again([4, 0, 1]), EXAMPLE, rows, len(first))

    def test_no_event(self):
        for body in ([], [8], [8, 1], [8, 1, 2], [9, 1, 1, 1], [100], [128], [128, 0], [128, 128, 1], [255, 255]):
            self.expect_stop(body)

    def test_an_integer_too_few_or_too_many(self):
        for body in EVENT_BODIES:
            # The last integer may have several bytes, of which the last one is below 128.
            numbers = [at + 1 for at, byte in enumerate(body) if byte < 128]
            if len(numbers) > 1:
                self.expect_stop(body[:numbers[-2]])
            self.expect_stop(body + [1])
            self.expect_stop(body + [0])
            self.expect_stop(body + [1, 1])

    def test_an_integer_that_is_cut_or_written_otherwise(self):
        for body in ([4, 0, 129], [4, 0, 129, 0], [4, 128, 0, 1], [132, 0, 0, 1], [0, 128], [1, 0, 255]):
            self.expect_stop(body)

    def test_an_item_that_there_is_not(self):
        for item in (2, 3, 127):
            for body in ([3, item, 5, 1], [4, item, 1], [5, item, 1], [5, item, 0], [6, 2, item, 3, 8]):
                self.expect_stop(body)

    def test_an_order_or_a_receipt_that_there_is_not(self):
        for body in ([7, 2], [7, 0], [7, 100], [1, 2, 9], [2, 2, 1], [2, 2, 0], [2, 127, 5]):
            self.expect_stop(body)

    def test_an_event_that_raises(self):
        for body in ([1, 0, 0], [1, 0, 201, 1], [2, 0, 245, 3], [3, 0, 5, 0], [4, 0, 145, 78], [5, 1, 1],
                     [6, 0, 0, 3, 8], [6, 100, 0, 3, 8], [6, 1, 0, 0, 8], [4, 0, *number_again(10 ** 30)],
                     [1, *number_again(10 ** 30), 9]):
            self.expect_stop(body)

    def test_a_day_that_raises(self):
        for books in ((0, (0, 0), (), ((1, 1, 2, 1),)), (200, (0, 0), (), ())):
            data = log_of(EXAMPLE, books, [("day",)])
            self.expect(data, EXAMPLE, [books], len(log_of(EXAMPLE, books, [])))

    def test_something_that_is_no_record(self):
        for more in ([0], [1], [255], [128, 0, 5], [1, 0, 1], [0, 6], [5, 5, 5, 5]):
            self.expect(self.START + more, EXAMPLE, [BOOKS], len(self.START))
            first = self.START + record_again([4, 0, 9])
            self.expect(first + more + record_again([4, 0, 1]), EXAMPLE,
                        [BOOKS, (BOOKS[0], (9, 0), *BOOKS[2:])], len(first))


class FirstRecords(Logs):
    def refuse(self, data):
        for more in ([], record_again([0]), [0]):
            with self.subTest(data=data, more=more):
                self.expect_invalid(data + more)

    def body_of(self, text, rest):
        return number_again(len(text)) + [ord(char) for char in text] + rest

    def test_no_record(self):
        for data in ([], [0], [5], [0, 6], [128, 0, 5], [255, 255], [1, 1, 1]):
            with self.subTest(data=data):
                self.expect_invalid(data)

    def test_an_empty_body(self):
        self.refuse(record_again([]))

    def test_a_body_that_is_cut_at_every_index(self):
        for body in (BODY, [0, 0, 0, 0], [0, 200, 1, 0, 0]):
            for end in range(len(body)):
                self.refuse(record_again(body[:end]))

    def test_something_behind(self):
        for more in ([0], [1], [128], [0, 0, 0], [128, 0]):
            self.refuse(record_again(BODY + more))
            self.refuse(record_again([0, 0, 0, 0] + more))

    def test_a_text_that_is_no_bill(self):
        line = "a: ; 1 days; 1 yields 1"
        opened(record_again(self.body_of(line, [0, 0, 0, 0])))
        for text in (f"{line}a", f"{line[:-1]}2", line[:-1], f"{line}\n{line}", f"a: b{line[2:]}", f"a: a{line[2:]}",
                     f"{line}\t", f"{line}\r\n", f"A{line[1:]}", f"{line}%", f"{line}\x00", f"\x7f{line}", "a"):
            self.refuse(record_again(self.body_of(text, [0, 0, 0, 0])))

    def test_a_text_with_codes_above_127(self):
        line = [ord(char) for char in "a: ; 1 days; 1 yields 1"]
        for codes in ([*line, 128], [200, *line], [*line, 255], [*line[:-1], 177], [line[0] + 128, *line[1:]],
                      [*line, 160, 1]):
            self.refuse(record_again([len(codes), *codes, 0, 0, 0, 0]))
            self.refuse(record_again([len(codes) - 1, *codes, 0, 0, 0, 0]))

    def test_a_text_that_is_written_otherwise_but_can_be_read(self):
        for text in ("a:;1days;1yields1", "\n  a : ; 1 days; 1 yields 1", "a: ; 1 days; 1 yields 1 \n\n"):
            desk, _ = opened(record_again(self.body_of(text, [0, 7, 0, 0])))
            self.assertEqual((desk.bill(), desk.books()), ((("a", (), 1, 1, 1),), (0, (7,), (), ())))

    def test_a_length_of_the_text_that_is_wrong(self):
        self.assertEqual(BODY[0], 65)
        for length in (0, 1, 28, 29, 64, 66, 67, 127):
            self.refuse(record_again([length, *BODY[1:]]))
        for length in ([193, 0], [128, 128, 1], number_again(10 ** 40)):
            self.refuse(record_again([*length, *BODY[1:]]))

    def test_books_that_are_not_right(self):
        text = BODY[:66]
        opened(record_again([*text, 5, 1, 2, 0, 0]))
        for rest in ([201, 1, 1, 2, 0, 0], [5, 145, 78, 2, 0, 0], [5, 1, 145, 78, 0, 0], [5, 1, 2, 1, 2, 9, 1, 0],
                     [5, 1, 2, 1, 0, 4, 1, 0], [5, 1, 2, 1, 0, 9, 0, 0], [5, 1, 2, 0, 1, 0, 1, 1, 9],
                     [5, 1, 2, 0, 1, 100, 1, 1, 9], [5, 1, 2, 0, 1, 7, 2, 1, 9], [5, 1, 2, 0, 1, 7, 1, 0, 9],
                     [5, 1, 2, 0, 1, 7, 1, 1, 4], [5, 1, 2, 0, 2, 7, 1, 1, 9, 7, 1, 1, 9],
                     [5, 1, 2, 0, 2, 8, 1, 1, 9, 7, 1, 1, 9], [5, 1, 2, 13, *[0, 9, 1] * 13, 0],
                     [5, 1, 2, 0, 13, *[byte for number in range(1, 14) for byte in (number, 1, 1, 9)]]):
            self.refuse(record_again([*text, *rest]))

    def test_more_rows_than_there_are(self):
        text = BODY[:66]
        for rest in ([5, 1, 2, 2, 0, 9, 1, 0], [5, 1, 2, 0, 2, 7, 1, 1, 9], [5, 1, 2, *number_again(10 ** 40), 0],
                     [5, 1, 2, 0, *number_again(10 ** 40)]):
            self.refuse(record_again([*text, *rest]))

    def test_a_wrong_sum(self):
        data = record_again(BODY)
        for at in range(len(data)):
            self.refuse([*data[:at], data[at] ^ 1, *data[at + 1:]])


if __name__ == "__main__":
    unittest.main()
