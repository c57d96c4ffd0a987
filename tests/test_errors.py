"""Point 3: the error classes."""

import inspect
import unittest

from helpers import any_values, same_kind
from lastturn import errors

FIELDS = {
    ValueError: {"InvalidName": "name", "InvalidGifts": None, "InvalidRanking": "guest", "InvalidRow": None,
                 "InvalidHolding": "guest", "NotEfficient": None, "NotSameHolding": None, "NotFull": None,
                 "InvalidState": None, "InvalidWord": None, "InvalidLog": "event", "Contradictory": "guest",
                 "InvalidEvent": "number", "InvalidText": "line", "InvalidCommand": "command"},
    KeyError: {"UnknownGuest": "guest", "DuplicateGuest": "guest", "UnknownGift": "gift", "DuplicateGift": "gift"},
    IndexError: {"OutOfRange": "number"},
    ArithmeticError: {"TooLarge": "limit"},
}
CASES = [(base, name, field) for base, names in FIELDS.items() for name, field in names.items()]


class ErrorsTest(unittest.TestCase):
    def test_there_are_exactly_twenty_one_classes_and_each_is_defined_here(self):
        found = {name for name, value in vars(errors).items() if inspect.isclass(value)}
        self.assertEqual(found, {name for _, name, _ in CASES})
        self.assertEqual(len(found), 21)
        for name in found:
            self.assertEqual(getattr(errors, name).__module__, "lastturn.errors")
            self.assertEqual(getattr(errors, name).__name__, name)

    def test_each_is_a_direct_subclass_of_its_builtin_class(self):
        for base, name, _ in CASES:
            with self.subTest(name):
                self.assertEqual(getattr(errors, name).__bases__, (base,))

    def test_fields_by_position_and_by_name_with_any_values(self):
        for _, name, field in CASES:
            if field is None:
                continue
            made = getattr(errors, name)
            for value in any_values() + ["ann", "lamp", 3]:
                with self.subTest(name, value=value):
                    self.assertTrue(same_kind(getattr(made(value), field), value))
                    self.assertTrue(same_kind(getattr(made(**{field: value}), field), value))

    def test_errors_without_fields(self):
        for _, name, field in CASES:
            if field is None:
                with self.subTest(name):
                    self.assertEqual(vars(getattr(errors, name)()), {})

    def test_fields_are_the_only_attributes(self):
        for _, name, field in CASES:
            if field is not None:
                with self.subTest(name):
                    self.assertEqual(vars(getattr(errors, name)("ann")), {field: "ann"})

    def test_each_can_be_raised_and_caught_by_its_own_name_and_by_its_builtin_class(self):
        for base, name, field in CASES:
            made = getattr(errors, name)
            for caught in (made, base):
                with self.subTest(name, caught=caught):
                    with self.assertRaises(caught) as context:
                        raise made() if field is None else made(["any"])
                    if field is not None:
                        self.assertEqual(getattr(context.exception, field), ["any"])

    def test_errors_keep_their_own_fields(self):
        first = errors.OutOfRange(1)
        second = errors.OutOfRange(2)
        self.assertEqual([first.number, second.number], [1, 2])
