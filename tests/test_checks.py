"""The checks of any values."""

import unittest

from helping import ANY, whole
from lanebanks.checks import is_integer, is_name, is_number, is_within

FORTY = 10 ** 40


class ChecksTest(unittest.TestCase):
    def test_integers(self):
        for value in ANY + [-5, FORTY, -FORTY, 7.5, 1.0]:
            self.assertIs(is_integer(value), type(value) is int, repr(value)[:40])
        self.assertIs(is_integer(True), False)
        self.assertIs(is_integer(False), False)
        self.assertIs(is_integer(value=3), True)

    def test_within(self):
        for least, most in ((0, 0), (0, 1), (1, 5), (-3, 3), (0, FORTY), (-FORTY, -1), (5, 4)):
            values = [least - 1, least, least + 1, most - 1, most, most + 1, -FORTY, FORTY]
            for value in values + ANY:
                self.assertIs(is_within(value, least, most), whole(value, least, most), (repr(value)[:40], least, most))
        self.assertIs(is_within(value=2, least=2, most=2), True)
        self.assertIs(is_within(2, most=3, least=3), False)
        self.assertIs(is_within(True, 0, 5), False)

    def test_numbers(self):
        for value in ANY + [-1, -FORTY, FORTY, 10 ** 1000]:
            self.assertIs(is_number(value), type(value) is int and value >= 0, repr(value)[:40])
        self.assertIs(is_number(value=0), True)
        self.assertIs(is_number(False), False)

    def test_names(self):
        good = ["a", "z", "ab", "zz", "abcdefgh", "zyxwvuts", "m"]
        for value in good:
            self.assertIs(is_name(value), True, value)
        for letter in "abcdefghijklmnopqrstuvwxyz":
            self.assertIs(is_name(letter), True)
            self.assertIs(is_name(letter.upper()), False)
        bad = ["", "abcdefghi", "A", "aB", "a1", "1", "a b", " a", "a ", "a\n", "\n", "a_b", "a-b", "`", "{", "-",
               "\u00e9", "a" * 4000]
        for value in bad:
            self.assertIs(is_name(value), False, value[:40])
        for value in ANY:
            if type(value) is not str:
                self.assertIs(is_name(value), False)
        self.assertIs(is_name(["a"]), False)
        self.assertIs(is_name(value="a"), True)


if __name__ == "__main__":
    unittest.main()
