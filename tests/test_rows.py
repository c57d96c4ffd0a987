"""Points 4 and 34: the rows of a holding are counted and numbered."""

import math
import unittest

from helpers import MANY_GIFTS, MANY_GUESTS, any_values, raised, random_wishes, same_kind, seeded
from holdings import all_holdings, all_rows, check_wrong_holdings, circle, crowd, jumbled, random_holding, rows_of
from holdings import small_wishes, some_wishes, three, turned_over
from lastturn import rows
from lastturn.efficient import row_of
from lastturn.errors import InvalidRow, NotEfficient, OutOfRange, TooLarge
from lastturn.parties import choose
from lastturn.rows import count_rows, row_at, row_number
from lastturn.wishes import Wishes

HOLDING = {"ann": "cup", "bob": "map", "cal": "hat"}
RINGED = {"ann": "hat", "bob": "map", "cal": "cup"}


def content(count):
    """Return Wishes and a holding in which each of the guests has their best gift."""
    gifts, guests = MANY_GIFTS[:count], MANY_GUESTS[:count]
    rankings = {guest: gifts[at:] + gifts[:at] for at, guest in enumerate(guests)}
    return Wishes(gifts, rankings), dict(zip(guests, gifts))


def numbers(wishes, row):
    return [wishes.guests().index(guest) for guest in row]


def larger_cases():
    """Return Wishes with four to six guests, and an efficient holding of them."""
    found = []
    for wishes in some_wishes(71, (4, 4), (5, 4), (3, 4), (2, 5), (5, 5), (16, 5), (6, 6), (16, 6), (3, 6)):
        found += [(wishes, holding) for _, holding in all_rows(wishes)[::113]]
    return found


class SmallPartiesTest(unittest.TestCase):
    def test_examples_of_the_document(self):
        self.assertEqual(row_at(three(), HOLDING, 2), ("cal", "ann", "bob"))
        self.assertEqual(row_number(three(), ("ann", "cal", "bob")), 1)

    def test_by_hand(self):
        self.assertEqual(count_rows(three(), HOLDING), 3)
        self.assertEqual([row_at(three(), HOLDING, number) for number in range(2)],
                         [("ann", "bob", "cal"), ("ann", "cal", "bob")])
        wishes = Wishes(["cup"], {"zoe": ["cup"], "bob": ["cup"], "ann": ["cup"]})
        holding = {"zoe": None, "bob": "cup", "ann": None}
        self.assertEqual(count_rows(wishes, holding), 2)
        self.assertEqual([row_at(wishes, holding, 0), row_at(wishes, holding, 1)],
                         [("bob", "zoe", "ann"), ("bob", "ann", "zoe")])
        self.assertEqual(row_number(wishes, ["bob", "ann", "zoe"]), 1)

    def test_no_guests_no_gifts_and_one_guest(self):
        for wishes in (Wishes([], {}), Wishes(["cup"], {})):
            self.assertTrue(same_kind([count_rows(wishes, {}), row_at(wishes, {}, 0), row_number(wishes, ())], [1, (), 0]))
        wishes = Wishes([], {"bob": (), "ann": ()})
        self.assertEqual(count_rows(wishes, {"ann": None, "bob": None}), 2)
        self.assertEqual(row_at(wishes, {"ann": None, "bob": None}, 1), ("ann", "bob"))
        self.assertEqual(row_number(wishes, ("ann", "bob")), 1)
        wishes = Wishes(["cup", "hat"], {"ann": ("hat", "cup")})
        self.assertEqual([count_rows(wishes, {"ann": gift}) for gift in ("hat", "cup", None)], [1, 0, 0])
        self.assertEqual([row_at(wishes, {"ann": "hat"}, 0), row_number(wishes, ("ann",))], [("ann",), 0])

    def check(self, wishes, holding):
        """Check count, rows and numbers against all rows; return the number of rows."""
        expected = rows_of(wishes, holding)
        self.assertTrue(same_kind(count_rows(wishes, holding), len(expected)))
        self.assertEqual(count_rows(wishes, turned_over(holding)), len(expected))
        for number, row in enumerate(expected):
            self.assertTrue(same_kind(row_at(wishes, turned_over(holding), number), row))
            self.assertTrue(same_kind(row_number(wishes, row), number))
            self.assertEqual(row_number(wishes, list(row)), number)
        return len(expected)

    def test_all_rows_of_all_holdings(self):
        for wishes in small_wishes() + [jumbled()]:
            total = sum(self.check(wishes, holding) for holding in all_holdings(wishes))
            self.assertEqual(total, math.factorial(len(wishes.guests())))

    def test_all_rows_of_larger_parties(self):
        for wishes, holding in larger_cases():
            self.assertGreater(self.check(wishes, holding), 0)

    def test_by_name_and_unmodified(self):
        wishes, holding, row = three(), dict(HOLDING), ["ann", "cal", "bob"]
        self.assertEqual(count_rows(holding=holding, wishes=wishes), 3)
        self.assertEqual(row_at(number=2, holding=holding, wishes=wishes), ("cal", "ann", "bob"))
        self.assertEqual(row_number(row=row, wishes=wishes), 1)
        self.assertEqual((wishes, list(holding.items()), row), (three(), list(HOLDING.items()), ["ann", "cal", "bob"]))

    def test_defined_where_the_interface_lists_them(self):
        for function in (count_rows, row_at, row_number):
            self.assertEqual(function.__module__, rows.__name__)


class TwelveGuestsTest(unittest.TestCase):
    def test_all_orders(self):
        wishes, holding = content(12)
        most = math.factorial(12)
        self.assertEqual(count_rows(wishes, holding), most)
        self.assertEqual(row_at(wishes, holding, 0), tuple(MANY_GUESTS[:12]))
        self.assertEqual(row_at(wishes, holding, most - 1), tuple(MANY_GUESTS[11::-1]))
        self.assertEqual(row_number(wishes, MANY_GUESTS[11::-1]), most - 1)
        self.assertEqual(raised(self, OutOfRange, row_at, wishes, holding, most).number, most)
        # The guest with number k leads the (12 - 1)! rows from k * 11! on.
        for number in range(12):
            first = row_at(wishes, holding, number * math.factorial(11))
            self.assertEqual(first, tuple(MANY_GUESTS[number:number + 1] + MANY_GUESTS[:number] + MANY_GUESTS[number + 1:12]))
            self.assertEqual(row_number(wishes, first), number * math.factorial(11))

    def test_no_gifts(self):
        wishes = crowd(12, 0)
        self.assertEqual(count_rows(wishes, dict.fromkeys(MANY_GUESTS[:12])), math.factorial(12))

    def test_one_row_only(self):
        wishes = crowd(12, 12)
        holding = dict(zip(MANY_GUESTS[:12], MANY_GIFTS[11::-1]))
        self.assertEqual(count_rows(wishes, holding), 1)
        self.assertEqual(row_at(wishes, holding, 0), tuple(MANY_GUESTS[11::-1]))
        self.assertEqual(row_number(wishes, MANY_GUESTS[11::-1]), 0)

    def test_rows_and_numbers_belong_to_each_other(self):
        rng = seeded(72)
        for many in (12, 12, 16, 8, 5, 3, 1, 11):
            wishes = random_wishes(rng, many, 12)
            row = rng.sample(wishes.guests(), 12)
            holding = choose(wishes, row)
            count = count_rows(wishes, holding)
            self.assertEqual(row_at(wishes, holding, 0), row_of(wishes, holding))
            self.assertEqual(row_at(wishes, holding, row_number(wishes, row)), tuple(row))
            last = []
            for number in sorted({0, count - 1, count // 2} | {rng.randrange(count) for _ in range(12)}):
                found = row_at(wishes, holding, number)
                self.assertEqual(choose(wishes, found), holding)
                self.assertEqual(row_number(wishes, found), number)
                self.assertLess(last, numbers(wishes, found))
                last = numbers(wishes, found)
            self.assertEqual(raised(self, OutOfRange, row_at, wishes, holding, count).number, count)

    def test_neighbours_in_number_have_no_row_between_them(self):
        wishes, holding = content(12)
        for number in (0, 1, 5, 119, 5039, 362879, 39916799, 479001598):
            row, after = row_at(wishes, holding, number), row_at(wishes, holding, number + 1)
            at = [one == other for one, other in zip(row, after)].index(False)
            # The next order takes the next larger guest, then all others in ascending order.
            self.assertEqual(list(row[at + 1:]), sorted(row[at + 1:], reverse=True))
            self.assertEqual(after[at], min(guest for guest in row[at + 1:] if guest > row[at]))
            self.assertEqual(list(after[at + 1:]), sorted(after[at + 1:]))


class ErrorsTest(unittest.TestCase):
    def test_values_that_are_no_holdings_come_first(self):
        for wishes in (three(), crowd(16), crowd(13, 3)):
            check_wrong_holdings(self, count_rows, wishes)
            check_wrong_holdings(self, row_at, wishes, 0, number=0)
            check_wrong_holdings(self, row_at, wishes, None, number=[])

    def test_rows_of_every_kind_come_first(self):
        for wishes in (three(), crowd(13)):
            guests = wishes.guests()
            for value in any_values() + [guests[1:], guests + guests[:1], guests[1:] + guests[1:2], "".join(guests),
                                         guests[1:] + [None], guests[1:] + [guests[:1]], dict.fromkeys(guests)]:
                with self.subTest(value=value):
                    raised(self, InvalidRow, row_number, wishes, value)
                    raised(self, InvalidRow, row_number, wishes=wishes, row=value)

    def test_too_many_guests(self):
        for count in (13, 14, 16):
            wishes = crowd(count, 16)
            # Nobody has a gift: the holding is not efficient, and the number is none.
            for holding in (dict.fromkeys(wishes.guests()), choose(wishes, wishes.guests())):
                self.assertEqual(raised(self, TooLarge, count_rows, wishes, holding).limit, 12)
                self.assertEqual(raised(self, TooLarge, row_at, wishes, holding, 0).limit, 12)
                self.assertEqual(raised(self, TooLarge, row_at, wishes, holding, None).limit, 12)
            self.assertEqual(raised(self, TooLarge, row_number, wishes, wishes.guests()).limit, 12)

    def test_holdings_that_are_not_efficient(self):
        rng = seeded(73)
        cases = [(three(), RINGED), (three(), dict.fromkeys(RINGED)), circle(12), circle(7)]
        for wishes in some_wishes(74, (12, 12), (16, 12), (8, 9)):
            cases.append((wishes, random_holding(rng, wishes)))
        for wishes, holding in cases:
            self.assertTrue(same_kind(count_rows(wishes, holding), 0))
            for number in [0, 1, -1] + any_values():
                raised(self, NotEfficient, row_at, wishes, holding, number)
            raised(self, NotEfficient, row_at, wishes=wishes, holding=holding, number=None)

    def test_numbers_of_every_kind(self):
        right = [0, 1, 2]
        for value in any_values() + [3, -3, "1", "two", [1], (1,), {1: 1}]:
            if any(same_kind(value, number) for number in right):
                self.assertEqual(choose(three(), row_at(three(), HOLDING, value)), HOLDING)
                continue
            with self.subTest(value=value):
                self.assertTrue(same_kind(raised(self, OutOfRange, row_at, three(), HOLDING, value).number, value))
                error = raised(self, OutOfRange, row_at, wishes=three(), holding=HOLDING, number=value)
                self.assertTrue(same_kind(error.number, value))
        for value in any_values():
            if not same_kind(value, 0):
                raised(self, OutOfRange, row_at, Wishes([], {}), {}, value)
