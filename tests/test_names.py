"""Points 2 and 3: names and the constants."""

import unittest

from helpers import ALPHABET, any_values
from lastturn import names
from lastturn.names import is_name


class NamesTest(unittest.TestCase):
    def test_constants(self):
        expected = {"GUESTS": 16, "GIFTS": 16, "COUNTED": 12, "LISTED": 7, "ARRIVALS": 6, "HOUSE": 5, "LOGGED": 10,
                    "PLANNED": 4}
        for name, value in expected.items():
            with self.subTest(name):
                self.assertIs(type(getattr(names, name)), int)
                self.assertEqual(getattr(names, name), value)

    def test_one_to_eight_letters_are_names(self):
        for length in range(1, 9):
            for letter in ALPHABET:
                self.assertIs(is_name(letter * length), True)
        for value in ("ann", "bob", "lamp", "none", "abcdefgh", "stuvwxyz", "zazazaza"):
            self.assertIs(is_name(value), True)

    def test_other_lengths_are_no_names(self):
        self.assertIs(is_name(""), False)
        for length in (9, 10, 16, 1000):
            self.assertIs(is_name("a" * length), False)

    def test_other_characters_are_no_names(self):
        for code in list(range(0x300)) + [0x430, 0x3b1, 0xff41, 0x1d41a, 0x2028, 0x131, 0x17f]:
            if chr(code) in ALPHABET:
                continue
            for value in (chr(code), "ann" + chr(code), chr(code) + "ann", "an" + chr(code) + "n"):
                self.assertIs(is_name(value), False, repr(value))

    def test_values_of_every_kind(self):
        for value in any_values():
            with self.subTest(value=value):
                self.assertIs(is_name(value), False)
        for value in (["a"], ("a",), {"a": "a"}, ["a", "n", "n"], ("a", "n", "n"), {"a": 1, "b": 2}):
            self.assertIs(is_name(value), False)

    def test_by_name(self):
        self.assertIs(is_name(value="ann"), True)
        self.assertIs(is_name(value=["ann"]), False)

    def test_defined_in_its_file(self):
        self.assertEqual(is_name.__module__, "lastturn.names")
