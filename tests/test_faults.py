"""[b3]: the first fault of a text that is no bill."""

import unittest

from latestart.bills import read_bill
from latestart.errors import BillFault


def fault_of(text):
    """The first fault of a text as a tuple (line, place, word); None if it is a bill."""
    try:
        read_bill(text)
    except BillFault as fault:
        return fault.line, fault.place, fault.word
    return None


def lone(name):
    """A line of an item without parts."""
    return f"{name}: ; 1 days; 1 yields 1"


def line_of(name, *parts):
    """A line of an item with these parts."""
    return f"{name}: {', '.join(parts)}; 1 days; 1 yields 1"


def numbers(least, greatest):
    return [str(number) for number in range(least, greatest + 1)]


# Every word that is tried at every place of a line: of each kind, at and beyond each bound.
NAMES = ["a", "days", "yields", "abcdefghijkl"]
NUMBERS = ["0", "1", "4", "5", "6", "10", "11", "20", "21", "50", "51", "999", "9999"]
SIGNS = [":", ",", ";"]
BAD = ["A", "!", "-", "abcdefghijklm", "00", "01", "007", "10000", "."]
TRIED = NAMES + NUMBERS + SIGNS + BAD

# Lines with what may stand at each of their places.
QUANTITY = numbers(1, 20)
LINES = (
    (("car", NAMES), (":", [":"]), (";", NAMES + QUANTITY + [";"]), ("3", numbers(0, 10)), ("days", ["days"]),
     (";", [";"]), ("5", numbers(1, 50)), ("yields", ["yields"]), ("5", numbers(1, 5))),
    (("days", NAMES), (":", [":"]), ("2", NAMES + QUANTITY + [";"]), ("yields", NAMES), (",", [",", ";"]),
     ("door", NAMES + QUANTITY), (",", [",", ";"]), ("20", NAMES + QUANTITY), ("days", NAMES), (",", [",", ";"]),
     ("roof", NAMES + QUANTITY), (";", [";"]), ("10", numbers(0, 10)), ("days", ["days"]), (";", [";"]),
     ("50", numbers(1, 50)), ("yields", ["yields"]), ("50", numbers(1, 50))),
    (("car", NAMES), (":", [":"]), ("seat", NAMES + QUANTITY + [";"]), (";", [",", ";"]), ("0", numbers(0, 10)),
     ("days", ["days"]), (";", [";"]), ("4", numbers(1, 50)), ("yields", ["yields"]), ("1", numbers(1, 4))),
)

# What stands ahead of a line, and how many lines this is.
AHEAD = (("", 0), ("\n", 1), ("  \n\n \n", 3), (lone("zoo") + "\n", 1), ("\n" + lone("zoo") + "\n   \n", 3))


class Unexpected(unittest.TestCase):
    def test_every_word_at_every_place(self):
        for line in LINES:
            for place, (_, fitting) in enumerate(line):
                for word in TRIED:
                    self.check_word([right for right, _ in line], place, word, word in fitting)

    def check_word(self, words, place, word, fits):
        """A word that fits is no fault, and is one that ends there "end"; another one is told at its place."""
        cut = " ".join(words[:place] + [word])
        whole = " ".join(words[:place] + [word] + words[place + 1:])
        with self.subTest(text=whole):
            if not fits:
                self.assertEqual(fault_of(cut), (0, place, "unexpected"))
                self.assertEqual(fault_of(whole), (0, place, "unexpected"))
            elif place < len(words) - 1:
                self.assertEqual(fault_of(cut), (0, place + 1, "end"))
            else:
                self.assertNotIn(fault_of(cut), [(0, place, "unexpected"), (0, place + 1, "end")])

    def test_the_line_and_blank_lines_ahead(self):
        for ahead, line in AHEAD:
            with self.subTest(ahead=ahead):
                self.assertEqual(fault_of(ahead + ": a"), (line, 0, "unexpected"))
                self.assertEqual(fault_of(ahead + "a: b c"), (line, 3, "unexpected"))
                self.assertEqual(fault_of(ahead + "a: ; 1 days; 1 yields 2\n" + lone("b")), (line, 8, "unexpected"))

    def test_numbers_one_beyond_their_ranges(self):
        for text, place in (("a: 0 b; 1 days; 1 yields 1", 2), ("a: 21 b; 1 days; 1 yields 1", 2),
                            ("a: b, 0 b; 1 days; 1 yields 1", 4), ("a: b, 21 b; 1 days; 1 yields 1", 4),
                            ("a: ; -1 days; 1 yields 1", 3), ("a: ; 11 days; 1 yields 1", 3),
                            ("a: ; 1 days; 0 yields 0", 6), ("a: ; 1 days; 51 yields 1", 6),
                            ("a: ; 1 days; 7 yields 0", 8), ("a: ; 1 days; 7 yields 8", 8),
                            ("a: ; 1 days; 50 yields 51", 8), ("a: ; 1 days; 1 yields 2", 8)):
            with self.subTest(text=text):
                self.assertEqual(fault_of(text + "\n" + lone("b")), (0, place, "unexpected"))

    def test_numbers_that_are_none(self):
        for digits in ("00", "01", "002", "00001", "12345"):
            with self.subTest(digits=digits):
                self.assertEqual(fault_of(f"a: {digits} b; 1 days; 1 yields 1"), (0, 2, "unexpected"))
                self.assertEqual(fault_of(f"a: ; {digits} days; 1 yields 1"), (0, 3, "unexpected"))
                self.assertEqual(fault_of(f"a: ; 1 days; {digits} yields 1"), (0, 6, "unexpected"))
                self.assertEqual(fault_of(f"a: ; 1 days; 1 yields {digits}"), (0, 8, "unexpected"))

    def test_a_fifth_part(self):
        self.assertEqual(fault_of(line_of("a", "b", "b", "b", "b", "b") + "\n" + lone("b")), (0, 9, "unexpected"))
        self.assertEqual(fault_of(line_of("a", "2 b", "b", "3 b", "b", "b")), (0, 11, "unexpected"))
        self.assertEqual(fault_of("a: b, b, b, b,"), (0, 9, "unexpected"))

    def test_something_behind_the_end(self):
        for word in TRIED:
            with self.subTest(word=word):
                self.assertEqual(fault_of(lone("a") + " " + word), (0, 9, "unexpected"))
                self.assertEqual(fault_of(line_of("a", "2 b") + " " + word + " " + word), (0, 11, "unexpected"))

    def test_two_items_on_one_line(self):
        self.assertEqual(fault_of(lone("a") + " " + lone("b")), (0, 9, "unexpected"))

    def test_commas_without_a_part(self):
        self.assertEqual(fault_of("a: , b; 1 days; 1 yields 1"), (0, 2, "unexpected"))
        self.assertEqual(fault_of("a: b,, b; 1 days; 1 yields 1"), (0, 4, "unexpected"))
        self.assertEqual(fault_of("a: b, ; 1 days; 1 yields 1"), (0, 4, "unexpected"))
        self.assertEqual(fault_of("a: 2, b; 1 days; 1 yields 1"), (0, 3, "unexpected"))
        self.assertEqual(fault_of("a: 2; 1 days; 1 yields 1"), (0, 3, "unexpected"))
        self.assertEqual(fault_of("a: 2 2 b; 1 days; 1 yields 1"), (0, 3, "unexpected"))


class End(unittest.TestCase):
    def test_a_line_that_is_cut_behind_each_of_its_tokens(self):
        for line in LINES:
            words = [right for right, _ in line]
            for many in range(1, len(words)):
                for ahead, lines in AHEAD:
                    text = ahead + " ".join(words[:many])
                    with self.subTest(text=text):
                        self.assertEqual(fault_of(text), (lines, many, "end"))
                        self.assertEqual(fault_of(text + "  \n" + lone("b")), (lines, many, "end"))

    def test_a_line_does_not_go_on_in_the_next_one(self):
        self.assertEqual(fault_of("a: ; 1 days;\n1 yields 1"), (0, 6, "end"))
        self.assertEqual(fault_of("a\n: ; 1 days; 1 yields 1"), (0, 1, "end"))


class Double(unittest.TestCase):
    def test_an_earlier_line_has_the_name(self):
        self.assertEqual(fault_of(lone("a") + "\n" + lone("a")), (1, 0, "double"))
        self.assertEqual(fault_of("\n".join(lone(name) for name in "abcb")), (3, 0, "double"))
        self.assertEqual(fault_of("\n".join(lone(name) for name in "abcabc")), (3, 0, "double"))

    def test_blank_lines_are_counted(self):
        self.assertEqual(fault_of("\n" + lone("a") + "\n  \n\n" + lone("b") + "\n\n" + lone("a")), (6, 0, "double"))

    def test_the_rest_of_the_lines_does_not_matter(self):
        self.assertEqual(fault_of("a: ; 1 days; 1 yields 1\na: b; 2 days; 3 yields 2"), (1, 0, "double"))

    def test_the_words_are_names_like_others(self):
        self.assertEqual(fault_of(lone("days") + "\n" + lone("days")), (1, 0, "double"))

    def test_a_part_of_that_name_is_none(self):
        self.assertIsNone(fault_of(lone("a") + "\n" + line_of("b", "a", "a")))
        self.assertIsNone(fault_of(lone("a") + "\n" + lone("ab") + "\n" + lone("aa")))


class Many(unittest.TestCase):
    def test_the_ninth_item(self):
        self.assertIsNone(fault_of("\n".join(lone(name) for name in "abcdefgh")))
        self.assertEqual(fault_of("\n".join(lone(name) for name in "abcdefghi")), (8, 0, "many"))
        self.assertEqual(fault_of("\n".join(lone(name) for name in "abcdefghijkl")), (8, 0, "many"))

    def test_blank_lines_are_counted_but_are_no_items(self):
        rows = ["", *[lone(name) for name in "abcd"], "   ", "", *[lone(name) for name in "efgh"], ""]
        self.assertIsNone(fault_of("\n".join(rows)))
        self.assertEqual(fault_of("\n".join(rows + [lone("i")])), (12, 0, "many"))


class Unknown(unittest.TestCase):
    def test_at_its_own_token(self):
        self.assertEqual(fault_of(line_of("a", "x")), (0, 2, "unknown"))
        self.assertEqual(fault_of(line_of("a", "2 x")), (0, 3, "unknown"))
        self.assertEqual(fault_of(line_of("a", "b", "x") + "\n" + lone("b")), (0, 4, "unknown"))
        self.assertEqual(fault_of(line_of("a", "2 b", "3 b", "b", "20 x") + "\n" + lone("b")), (0, 11, "unknown"))
        self.assertEqual(fault_of(line_of("a", "2 b", "x", "b") + "\n" + lone("b")), (0, 5, "unknown"))

    def test_the_first_one_of_the_line(self):
        self.assertEqual(fault_of(line_of("a", "x", "y")), (0, 2, "unknown"))
        self.assertEqual(fault_of(line_of("a", "b", "2 x", "x") + "\n" + lone("b")), (0, 5, "unknown"))

    def test_the_first_line(self):
        self.assertEqual(fault_of(lone("a") + "\n" + line_of("b", "a", "x") + "\n" + line_of("c", "x")),
                         (1, 4, "unknown"))

    def test_blank_lines_are_counted(self):
        self.assertEqual(fault_of("\n " + "\n" + line_of("a", "b") + "\n\n" + line_of("b", "3 x")), (4, 3, "unknown"))

    def test_a_name_is_whole(self):
        self.assertEqual(fault_of(line_of("a", "whee") + "\n" + lone("wheel")), (0, 2, "unknown"))
        self.assertEqual(fault_of(line_of("a", "days")), (0, 2, "unknown"))


class Loop(unittest.TestCase):
    def test_an_item_that_is_directly_a_part_of_itself(self):
        self.assertEqual(fault_of(line_of("a", "a")), (0, 0, "loop"))
        self.assertEqual(fault_of(lone("a") + "\n" + line_of("b", "a", "2 b")), (1, 0, "loop"))

    def test_by_one_other(self):
        self.assertEqual(fault_of(line_of("a", "b") + "\n" + line_of("b", "a")), (0, 0, "loop"))
        self.assertEqual(fault_of(lone("c") + "\n" + line_of("a", "c", "b") + "\n" + line_of("b", "c", "a")),
                         (1, 0, "loop"))

    def test_by_all_others(self):
        rows = [line_of(name, part) for name, part in zip("abcdefgh", "bcdefgha")]
        self.assertEqual(fault_of("\n".join(rows)), (0, 0, "loop"))
        self.assertEqual(fault_of("\n".join([line_of("a", "b"), *rows[1:7], line_of("h", "b")])), (1, 0, "loop"))

    def test_an_item_that_only_uses_a_loop_is_not_told(self):
        self.assertEqual(fault_of("\n".join([line_of("a", "b"), line_of("b", "c"), line_of("c", "b")])),
                         (1, 0, "loop"))
        self.assertEqual(fault_of("\n".join([line_of("a", "c"), lone("b"), line_of("c", "b", "c")])), (2, 0, "loop"))

    def test_a_part_of_a_loop_is_not_told(self):
        self.assertEqual(fault_of("\n".join([lone("a"), line_of("b", "a", "c"), line_of("c", "a", "b")])),
                         (1, 0, "loop"))

    def test_the_first_of_several_loops(self):
        self.assertEqual(fault_of("\n".join([lone("a"), line_of("b", "e"), line_of("c", "c"), line_of("d", "d"),
                                             line_of("e", "b")])), (1, 0, "loop"))

    def test_blank_lines_are_counted(self):
        self.assertEqual(fault_of("\n  \n" + line_of("a", "b") + "\n\n" + line_of("b", "c") + "\n\n\n"
                                  + line_of("c", "b")), (4, 0, "loop"))


class FirstOfSeveral(unittest.TestCase):
    def test_of_one_line(self):
        self.assertEqual(fault_of("a: 0 b; 11 days; 1 yields 2"), (0, 2, "unexpected"))
        self.assertEqual(fault_of(lone("a") + "\na: ; 1 days; 1 yields 2"), (1, 8, "unexpected"))
        self.assertEqual(fault_of(lone("a") + "\na: ; 1 days"), (1, 5, "end"))
        self.assertEqual(fault_of(lone("a") + "\na: x, a; 1 days; 1 yields 1"), (1, 0, "double"))
        eight = "\n".join(lone(name) for name in "abcdefgh")
        self.assertEqual(fault_of(eight + "\ni: ; 1 days; 0 yields 0"), (8, 6, "unexpected"))
        self.assertEqual(fault_of(eight + "\ni: ;"), (8, 3, "end"))
        self.assertEqual(fault_of(eight + "\n" + lone("c")), (8, 0, "double"))
        self.assertEqual(fault_of(eight + "\n" + line_of("i", "x")), (8, 0, "many"))
        self.assertEqual(fault_of(line_of("a", "a", "x")), (0, 4, "unknown"))

    def test_an_earlier_line_is_first(self):
        eight = "\n".join(lone(name) for name in "abcdefgh")
        self.assertEqual(fault_of("a: ;\nb: b b"), (0, 3, "end"))
        self.assertEqual(fault_of("a: b b\nb: ;"), (0, 3, "unexpected"))
        self.assertEqual(fault_of(lone("a") + "\n" + lone("a") + "\n: a"), (1, 0, "double"))
        self.assertEqual(fault_of(eight + "\n" + lone("i") + "\n" + lone("a")), (8, 0, "many"))
        self.assertEqual(fault_of(eight + "\n" + lone("i") + "\n;"), (8, 0, "many"))

    def test_unknown_comes_behind_all_lines(self):
        self.assertEqual(fault_of(line_of("a", "x") + "\nb: ; 11 days"), (1, 3, "unexpected"))
        self.assertEqual(fault_of(line_of("a", "x") + "\nb"), (1, 1, "end"))
        self.assertEqual(fault_of(line_of("a", "x") + "\n" + lone("a")), (1, 0, "double"))
        self.assertEqual(fault_of("\n".join(line_of(name, "x") for name in "abcdefghi")), (8, 0, "many"))

    def test_loop_comes_last(self):
        self.assertEqual(fault_of(line_of("a", "a") + "\n" + line_of("b", "x")), (1, 2, "unknown"))
        self.assertEqual(fault_of(line_of("a", "a") + "\n" + lone("a")), (1, 0, "double"))
        self.assertEqual(fault_of(line_of("a", "a") + "\nb: ;"), (1, 3, "end"))
        self.assertEqual(fault_of(line_of("a", "a") + "\nb b"), (1, 1, "unexpected"))
        self.assertEqual(fault_of("\n".join(line_of(name, name) for name in "abcdefghi")), (8, 0, "many"))


if __name__ == "__main__":
    unittest.main()
