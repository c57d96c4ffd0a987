"""Points 4 and 35: rows of the same holding are connected by shortest ladders of neighbour exchanges."""

import copy
import itertools
import unittest

from helpers import MANY_GUESTS, any_values, down_the_row, raised, same_kind, seeded
from holdings import all_rows, crowd, envies, jumbled, small_wishes, some_wishes, three
from lastturn import ladders
from lastturn.errors import InvalidRow, NotSameHolding
from lastturn.ladders import is_ladder, ladder, same_holding
from lastturn.parties import choose
from lastturn.wishes import Wishes

ROW, OTHER = ("ann", "bob", "cal"), ("cal", "ann", "bob")


def different_pairs(row, other):
    """Return the number of pairs of guests that stand in different order in the two rows."""
    return sum(other.index(one) > other.index(two) for one, two in itertools.combinations(row, 2))


def climbed(row, positions):
    """Return all rows of a ladder, the first and the last one included."""
    rows = [list(row)]
    for position in positions:
        now = list(rows[-1])
        now[position], now[position + 1] = now[position + 1], now[position]
        rows.append(now)
    return rows


def is_right(wishes, row, other, positions):
    """Return True if these positions, each of them within the row, are a ladder."""
    rows = climbed(row, positions)
    holding = down_the_row(wishes.gifts(), wishes.rankings(), row)
    return (rows[-1] == list(other) and len(positions) == different_pairs(row, other)
            and all(down_the_row(wishes.gifts(), wishes.rankings(), now) == holding for now in rows))


def row_pairs(wishes):
    """Return all pairs of rows, each with an answer whether they result in the same holding."""
    return [(row, other, held == holding) for row, held in all_rows(wishes) for other, holding in all_rows(wishes)]


def another_row(rng, wishes, row):
    """Return a row by chance of the same holding."""
    holding = choose(wishes, row)
    guests = rng.sample(wishes.guests(), len(row))
    found = []
    while len(found) < len(row):
        found.append([guest for guest in guests if guest not in found and all(
            other in found for other in guests if envies(wishes, holding, guest, other))][0])
    return found


def large_cases():
    """Return Wishes and pairs of rows of the same holding with up to sixteen guests."""
    rng = seeded(81)
    cases = []
    for wishes in some_wishes(82, (16, 16), (16, 13), (5, 16), (1, 16), (0, 16), (12, 12), (16, 8)):
        row = rng.sample(wishes.guests(), len(wishes.guests()))
        cases.append((wishes, row, another_row(rng, wishes, row)))
    return cases


class SameHoldingTest(unittest.TestCase):
    def test_by_hand(self):
        self.assertIs(same_holding(three(), ROW, OTHER), True)
        self.assertIs(same_holding(three(), ROW, ("bob", "ann", "cal")), False)
        self.assertIs(same_holding(Wishes(["cup"], {}), (), []), True)
        self.assertIs(same_holding(Wishes([], {"ann": (), "bob": ()}), ["ann", "bob"], ("bob", "ann")), True)

    def test_all_rows(self):
        for wishes in small_wishes() + [jumbled()] + some_wishes(83, (4, 4), (2, 4)):
            for row, other, same in row_pairs(wishes):
                self.assertIs(same_holding(wishes, row, other), same)

    def test_sixteen_guests(self):
        for wishes, row, other in large_cases():
            self.assertIs(same_holding(wishes, row, other), True)
        wishes = crowd(16)
        self.assertIs(same_holding(wishes, MANY_GUESTS[:16], MANY_GUESTS[15::-1]), False)

    def test_by_name_and_unmodified(self):
        row, other = list(ROW), list(OTHER)
        self.assertIs(same_holding(other=other, row=row, wishes=three()), True)
        self.assertEqual((row, other), (list(ROW), list(OTHER)))


class LadderTest(unittest.TestCase):
    def test_example_of_the_document(self):
        self.assertEqual(ladder(three(), ROW, OTHER), [1, 0])

    def test_by_hand(self):
        self.assertTrue(same_kind(ladder(three(), ROW, ROW), []))
        self.assertTrue(same_kind(ladder(three(), OTHER, ROW), [0, 1]))
        self.assertTrue(same_kind(ladder(Wishes([], {}), (), ()), []))
        self.assertTrue(same_kind(ladder(Wishes(["cup"], {"ann": ["cup"]}), ["ann"], ("ann",)), []))
        self.assertTrue(same_kind(ladder(Wishes([], {"ann": (), "bob": ()}), ["ann", "bob"], ("bob", "ann")), [0]))

    def check(self, wishes, row, other):
        found = ladder(wishes, row, other)
        self.assertIs(type(found), list)
        self.assertTrue(all(type(position) is int and 0 <= position <= len(row) - 2 for position in found))
        self.assertTrue(is_right(wishes, row, other, found))
        self.assertTrue(same_kind(ladder(wishes, list(row), tuple(other)), found))
        self.assertIs(is_ladder(wishes, row, other, found), True)

    def test_all_rows_of_small_parties(self):
        for wishes in small_wishes() + [jumbled()] + some_wishes(84, (4, 4), (2, 4), (0, 4), (1, 4), (5, 4)):
            for row, other, same in row_pairs(wishes):
                if same:
                    self.check(wishes, row, other)
                else:
                    raised(self, NotSameHolding, ladder, wishes, row, other)

    def test_sixteen_guests(self):
        for wishes, row, other in large_cases():
            self.check(wishes, row, other)
            self.check(wishes, other, row)
        self.check(crowd(16, 0), MANY_GUESTS[:16], MANY_GUESTS[15::-1])
        self.assertEqual(len(ladder(crowd(16, 0), MANY_GUESTS[:16], MANY_GUESTS[15::-1])), 120)

    def test_new_lists_by_name_and_unmodified(self):
        wishes, row, other = three(), list(ROW), list(OTHER)
        ladder(wishes, row, other).clear()
        self.assertEqual(ladder(other=other, row=row, wishes=wishes), [1, 0])
        self.assertEqual((wishes, row, other), (three(), list(ROW), list(OTHER)))


class IsLadderTest(unittest.TestCase):
    def test_example_of_the_document(self):
        self.assertIs(is_ladder(three(), ROW, OTHER, [0, 1]), False)
        self.assertIs(is_ladder(three(), ROW, OTHER, [1, 0]), True)

    def test_all_positions_for_rows_of_small_parties(self):
        for wishes in small_wishes()[::9] + [jumbled(), three()]:
            last = len(wishes.guests()) - 2
            values = [list(value) for many in range(5) for value in itertools.product((-1, 0, 1, 2), repeat=many)]
            for row, other, same in row_pairs(wishes):
                if same:
                    for value in values:
                        within = all(0 <= position <= last for position in value)
                        self.assertIs(is_ladder(wishes, row, other, value),
                                      within and is_right(wishes, row, other, value))

    def test_four_guests(self):
        values = [list(value) for many in range(5) for value in itertools.product((0, 1, 2), repeat=many)]
        for wishes in some_wishes(85, (4, 4), (2, 4), (5, 4), (0, 4)):
            for row, other, same in row_pairs(wishes)[::7]:
                if same:
                    for value in values:
                        self.assertIs(is_ladder(wishes, row, other, value), is_right(wishes, row, other, value))

    def test_longer_ladders_and_changes_of_a_ladder(self):
        for wishes, row, other in large_cases():
            found = ladder(wishes, row, other)
            for value in (found + [0, 0], [1, 1] + found, found[:-1], found[1:], found + [0], found[::-1]):
                self.assertIs(is_ladder(wishes, row, other, value), is_right(wishes, row, other, value))

    def test_values_of_every_kind(self):
        for value in any_values():
            before = copy.deepcopy(value)
            for row, other in ((ROW, OTHER), (ROW, ROW)):
                with self.subTest(value=value):
                    self.assertIs(is_ladder(three(), row, other, value), row == other and same_kind(value, []))
            for whole in ([value], [value, 0], [1, value], [value, value]):
                right = same_kind(whole, [1, 0])
                self.assertIs(is_ladder(three(), ROW, OTHER, whole), right)
            self.assertTrue(same_kind(value, before))
        for value in ((1, 0), [1, False], [True, 0], [True, False], [[1], 0], [(1,), 0], ["1", "0"], [1, 0, 0, 0], [-1, -2],
                      [1, -3], [2, 0], [1, 3], [10 ** 60, 0], [1, -10 ** 60], [[1, 0]], ([1, 0],), {1: 0}, {0: 1, 1: 0},
                      "10", [None, None], [1], 10):
            self.assertIs(is_ladder(three(), ROW, OTHER, value), False)
        self.assertIs(is_ladder(Wishes([], {"ann": (), "bob": ()}), ("ann", "bob"), ("bob", "ann"), [0]), True)
        for value in ([False], (0,), [-1], [1], [-2], [], [0, 0, 0], ["0"]):
            self.assertIs(is_ladder(Wishes([], {"ann": (), "bob": ()}), ("ann", "bob"), ("bob", "ann"), value), False)

    def test_one_guest_and_none(self):
        for wishes, row in ((Wishes([], {}), ()), (Wishes(["cup"], {"ann": ["cup"]}), ("ann",))):
            for value in any_values() + [[0], [-1], [0, 0]]:
                self.assertIs(is_ladder(wishes, row, row, value), same_kind(value, []))

    def test_by_name_and_unmodified(self):
        row, other, value = list(ROW), list(OTHER), [1, 0]
        self.assertIs(is_ladder(value=value, other=other, row=row, wishes=three()), True)
        self.assertEqual((row, other, value), (list(ROW), list(OTHER), [1, 0]))


class ErrorsTest(unittest.TestCase):
    def test_rows_of_every_kind(self):
        wrong = any_values() + [("ann", "bob"), ["ann", "bob", "bob"], ["ann", "bob", "cal", "cal"], "annbobcal",
                                ("ann", "bob", ["cal"]), ["ann", "bob", None], dict.fromkeys(ROW), [ROW]]
        for function, others in ((same_holding, {}), (ladder, {}), (is_ladder, {"value": [1, 0]}), (is_ladder, {"value": {}})):
            for value in wrong:
                with self.subTest(value=value):
                    for right in (ROW, ("bob", "cal", "ann")):
                        raised(self, InvalidRow, function, three(), right, value, *others.values())
                        raised(self, InvalidRow, function, three(), value, right, *others.values())
                        raised(self, InvalidRow, function, wishes=three(), row=right, other=value, **others)
                    raised(self, InvalidRow, function, wishes=three(), row=value, other=None, **others)
            raised(self, InvalidRow, function, Wishes(["cup"], {}), (), ("ann",), *others.values())

    def test_rows_of_different_holdings(self):
        for row, other in ((ROW, ("bob", "ann", "cal")), (("bob", "cal", "ann"), OTHER)):
            raised(self, NotSameHolding, ladder, three(), row, other)
            raised(self, NotSameHolding, ladder, wishes=three(), row=list(row), other=list(other))
            for value in any_values() + [[0], [1, 0]]:
                raised(self, NotSameHolding, is_ladder, three(), row, other, value)
                raised(self, NotSameHolding, is_ladder, wishes=three(), row=row, other=other, value=value)
        raised(self, NotSameHolding, ladder, crowd(16), MANY_GUESTS[:16], MANY_GUESTS[15::-1])

    def test_defined_where_the_interface_lists_them(self):
        for function in (same_holding, ladder, is_ladder):
            self.assertEqual(function.__module__, ladders.__name__)
