"""[b2]: the tokens of a line."""

import unittest

from latestart.tokens import tokens

PRINTABLE = [chr(code) for code in range(32, 127)]
LETTERS = "abcdefghijklmnopqrstuvwxyz"
DIGITS = "0123456789"
SIGNS = ":,;"


class Names(unittest.TestCase):
    def test_a_name_has_1_to_12_letters(self):
        for many in range(1, 13):
            with self.subTest(many=many):
                self.assertEqual(tokens("x" * many), [("name", "x" * many)])

    def test_a_longer_run_of_letters_is_bad_as_a_whole(self):
        for many in (13, 14, 24, 25, 200):
            with self.subTest(many=many):
                self.assertEqual(tokens("x" * many), [("bad", "x" * many)])

    def test_each_small_letter_is_one(self):
        for letter in LETTERS:
            with self.subTest(letter=letter):
                self.assertEqual(tokens(letter), [("name", letter)])

    def test_the_two_words_are_names(self):
        self.assertEqual(tokens("days yields"), [("name", "days"), ("name", "yields")])

    def test_of_two_runs_each_has_its_own_length(self):
        self.assertEqual(tokens("a" * 12 + " " + "b" * 13 + ";" + "c" * 12),
                         [("name", "a" * 12), ("bad", "b" * 13), ("sign", ";"), ("name", "c" * 12)])


class Numbers(unittest.TestCase):
    def test_a_number_has_1_to_4_digits(self):
        for digits in ("1", "9", "10", "12", "100", "305", "1000", "9999"):
            with self.subTest(digits=digits):
                self.assertEqual(tokens(digits), [("number", digits)])

    def test_each_digit_is_one(self):
        for digit in DIGITS:
            with self.subTest(digit=digit):
                self.assertEqual(tokens(digit), [("number", digit)])

    def test_a_longer_run_of_digits_is_bad_as_a_whole(self):
        for digits in ("10000", "12345", "99999", "123456789"):
            with self.subTest(digits=digits):
                self.assertEqual(tokens(digits), [("bad", digits)])

    def test_more_than_one_digit_beginning_with_0_is_bad(self):
        for digits in ("00", "01", "09", "007", "0000", "0123", "00000", "01234"):
            with self.subTest(digits=digits):
                self.assertEqual(tokens(digits), [("bad", digits)])


class Runs(unittest.TestCase):
    def test_letters_directly_beside_digits(self):
        self.assertEqual(tokens("2wheel"), [("number", "2"), ("name", "wheel")])
        self.assertEqual(tokens("wheel2"), [("name", "wheel"), ("number", "2")])
        self.assertEqual(tokens("a1b22c0"), [("name", "a"), ("number", "1"), ("name", "b"), ("number", "22"),
                                             ("name", "c"), ("number", "0")])
        self.assertEqual(tokens("abcdefghijklm01n"), [("bad", "abcdefghijklm"), ("bad", "01"), ("name", "n")])

    def test_a_number_behind_a_name_may_not_begin_with_0(self):
        self.assertEqual(tokens("a05"), [("name", "a"), ("bad", "05")])


class SignsAndOthers(unittest.TestCase):
    def test_each_sign(self):
        for sign in SIGNS:
            with self.subTest(sign=sign):
                self.assertEqual(tokens(sign), [("sign", sign)])

    def test_signs_side_by_side_are_tokens_of_their_own(self):
        for one in SIGNS:
            for two in SIGNS:
                with self.subTest(both=one + two):
                    self.assertEqual(tokens(one + two), [("sign", one), ("sign", two)])

    def test_every_other_character_is_bad(self):
        for char in PRINTABLE:
            if char not in LETTERS + DIGITS + SIGNS + " ":
                with self.subTest(char=char):
                    self.assertEqual(tokens(char), [("bad", char)])
                    self.assertEqual(tokens("a" + char + "1"), [("name", "a"), ("bad", char), ("number", "1")])

    def test_other_characters_side_by_side_are_tokens_of_their_own(self):
        self.assertEqual(tokens("AB"), [("bad", "A"), ("bad", "B")])
        self.assertEqual(tokens("!!"), [("bad", "!"), ("bad", "!")])
        self.assertEqual(tokens("-1"), [("bad", "-"), ("number", "1")])
        self.assertEqual(tokens("Wheel"), [("bad", "W"), ("name", "heel")])
        self.assertEqual(tokens("a_b"), [("name", "a"), ("bad", "_"), ("name", "b")])
        self.assertEqual(tokens("1.5"), [("number", "1"), ("bad", "."), ("number", "5")])


class Spaces(unittest.TestCase):
    def test_a_line_without_tokens(self):
        for line in ("", " ", "     "):
            with self.subTest(line=line):
                self.assertEqual(tokens(line), [])

    def test_spaces_belong_to_no_token(self):
        found = [("name", "a"), ("sign", ":"), ("number", "2"), ("name", "b"), ("bad", "?")]
        for line in ("a:2b?", " a:2b?", "a:2b? ", "a : 2 b ?", "   a  :   2  b    ?   "):
            with self.subTest(line=line):
                self.assertEqual(tokens(line), found)

    def test_spaces_separate_what_would_be_one_token(self):
        self.assertEqual(tokens("ab cd"), [("name", "ab"), ("name", "cd")])
        self.assertEqual(tokens("1 2"), [("number", "1"), ("number", "2")])
        self.assertEqual(tokens("0 0"), [("number", "0"), ("number", "0")])
        self.assertEqual(tokens("abcdefg hijklmn"), [("name", "abcdefg"), ("name", "hijklmn")])
        self.assertEqual(tokens("123 456"), [("number", "123"), ("number", "456")])

    def test_the_line_of_the_document(self):
        found = [("name", "bicycle"), ("sign", ":"), ("name", "frame"), ("sign", ","), ("number", "2"),
                 ("name", "wheel"), ("sign", ";"), ("number", "2"), ("name", "days"), ("sign", ";"),
                 ("number", "1"), ("name", "yields"), ("number", "1")]
        self.assertEqual(tokens("bicycle: frame, 2 wheel; 2 days; 1 yields 1"), found)
        self.assertEqual(tokens("bicycle:frame,2wheel;2days;1yields1"), found)


class Whole(unittest.TestCase):
    def test_no_character_but_spaces_is_lost(self):
        line = "".join(PRINTABLE) + " ab 12 " + "".join(reversed(PRINTABLE))
        self.assertEqual("".join(string for _, string in tokens(line)), line.replace(" ", ""))

    def test_it_is_a_list_of_tuples_that_is_new_each_time(self):
        line = "a: ; 1"
        first = tokens(line)
        self.assertIs(type(first), list)
        self.assertEqual({type(token) for token in first}, {tuple})
        first.clear()
        self.assertEqual(len(tokens(line)), 4)


if __name__ == "__main__":
    unittest.main()
