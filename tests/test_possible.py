"""Point 36: what guests can get by choosing down some row."""

import itertools
import unittest

from helpers import MANY_GIFTS, MANY_GUESTS, any_values, down_the_row, raised, random_wishes, same_kind, seeded
from holdings import all_rows, crowd, jumbled, small_wishes, some_wishes, three
from lastturn import possible
from lastturn.errors import InvalidHolding, TooLarge, UnknownGuest
from lastturn.parties import choose
from lastturn.possible import possible_gifts, row_with
from lastturn.wishes import Wishes


def listed(wishes, guest):
    """Return what `possible_gifts` has to return, from all rows."""
    rows = all_rows(wishes)
    found = []
    for gift in wishes.ranking(guest) + (None,):
        with_it = [row for row, holding in rows if holding[guest] == gift]
        if with_it:
            found.append((gift, with_it[0]))
    return found


def least(wishes, wanted):
    """Return what `row_with` has to return, from all rows."""
    for row, holding in all_rows(wishes):
        if all(holding[guest] == gift for guest, gift in wanted.items()):
            return row
    return None


def all_wanted(wishes):
    """Return all dicts from some of the guests to different gifts, or to None."""
    guests = wishes.guests()
    found = []
    for chosen in itertools.product(wishes.gifts() + [None, "anything"], repeat=len(guests)):
        wanted = {guest: gift for guest, gift in zip(guests, chosen) if gift != "anything"}
        gifts = [gift for gift in wanted.values() if gift is not None]
        if len(gifts) == len(set(gifts)):
            found.append(wanted)
    return found


LARGER = [(4, 4), (3, 4), (5, 4), (1, 4), (0, 4), (5, 5), (2, 5), (16, 5), (4, 6)]


class PossibleGiftsTest(unittest.TestCase):
    def test_example_of_the_document(self):
        self.assertEqual(possible_gifts(three(), "cal"), [("hat", ("ann", "bob", "cal")), ("map", ("bob", "ann", "cal"))])

    def test_by_hand(self):
        wishes = Wishes(["vase", "lamp"], {guest: ("lamp", "vase") for guest in ("zoe", "bob", "ann")})
        self.assertTrue(same_kind(possible_gifts(wishes, "bob"), [
            ("lamp", ("bob", "zoe", "ann")), ("vase", ("zoe", "bob", "ann")), (None, ("zoe", "ann", "bob"))]))
        self.assertTrue(same_kind(possible_gifts(Wishes([], {"ann": ()}), "ann"), [(None, ("ann",))]))
        self.assertTrue(same_kind(possible_gifts(Wishes(["cup", "hat"], {"ann": ("hat", "cup")}), "ann"),
                                  [("hat", ("ann",))]))
        # The least row does not need to have the guest behind as few others as possible.
        wishes = Wishes(["cup", "hat"], {"ann": ("cup", "hat"), "bob": ("hat", "cup"), "cal": ("cup", "hat")})
        self.assertEqual(possible_gifts(wishes, "cal"), [("cup", ("bob", "cal", "ann")), ("hat", ("ann", "cal", "bob")),
                                                         (None, ("ann", "bob", "cal"))])

    def test_against_all_rows(self):
        for wishes in small_wishes() + [jumbled()] + some_wishes(91, *LARGER * 3):
            for guest in wishes.guests():
                self.assertTrue(same_kind(possible_gifts(wishes, guest), listed(wishes, guest)))

    def test_seven_guests(self):
        for wishes in some_wishes(92, (7, 7), (5, 7), (16, 7), (8, 7)):
            rows = all_rows(wishes)
            for guest in wishes.guests()[::3]:
                found = possible_gifts(wishes, guest)
                self.assertEqual([gift for gift, _ in found], [gift for gift in wishes.ranking(guest) + (None,)
                                                               if gift in {holding[guest] for _, holding in rows}])
                for gift, row in found:
                    self.assertEqual([row for row, holding in rows if holding[guest] == gift][0], row)
        wishes = crowd(7, 16)
        self.assertEqual([gift for gift, _ in possible_gifts(wishes, "pa")], MANY_GIFTS[:7])
        self.assertEqual(possible_gifts(wishes, "pa")[6], (MANY_GIFTS[6], tuple(MANY_GUESTS[1:7] + ["pa"])))
        self.assertEqual(possible_gifts(crowd(7, 0), "pd"), [(None, tuple(MANY_GUESTS[:7]))])

    def test_new_lists_by_name_and_unmodified(self):
        wishes = three()
        possible_gifts(wishes, "cal").clear()
        self.assertEqual(len(possible_gifts(guest="cal", wishes=wishes)), 2)
        self.assertEqual(wishes, three())

    def test_guests_of_every_kind(self):
        for wishes in (three(), crowd(8), Wishes(["cup"], {})):
            for value in any_values() + ["cup", "zoe", ["pa"], ("pa",), {"pa": "pa"}]:
                if value not in wishes.guests():
                    with self.subTest(value=value):
                        error = raised(self, UnknownGuest, possible_gifts, wishes, value)
                        self.assertTrue(same_kind(error.guest, value))
                        error = raised(self, UnknownGuest, possible_gifts, wishes=wishes, guest=value)
                        self.assertTrue(same_kind(error.guest, value))

    def test_too_many_guests(self):
        for count in (8, 16):
            self.assertEqual(raised(self, TooLarge, possible_gifts, crowd(count), "pc").limit, 7)
            self.assertEqual(raised(self, TooLarge, possible_gifts, wishes=crowd(count, 0), guest="pa").limit, 7)


class RowWithTest(unittest.TestCase):
    def test_examples_of_the_document(self):
        self.assertEqual(row_with(three(), {"cal": "map"}), ("bob", "ann", "cal"))
        self.assertIs(row_with(three(), {"bob": "hat"}), None)

    def test_by_hand(self):
        self.assertEqual(row_with(three(), {}), ("ann", "bob", "cal"))
        self.assertEqual(row_with(jumbled(), {}), ("zoe", "ann", "moe"))
        self.assertEqual(row_with(Wishes([], {}), {}), ())
        self.assertIs(row_with(three(), {"ann": None}), None)
        wishes = Wishes(["vase"], {"zoe": ["vase"], "bob": ["vase"], "ann": ["vase"]})
        self.assertEqual(row_with(wishes, {"zoe": None, "bob": None}), ("ann", "zoe", "bob"))
        self.assertEqual(row_with(wishes, {"zoe": None}), ("bob", "zoe", "ann"))
        self.assertIs(row_with(wishes, {"zoe": None, "bob": None, "ann": None}), None)
        self.assertEqual(row_with(Wishes([], {"bob": (), "ann": ()}), {"ann": None, "bob": None}), ("bob", "ann"))

    def test_against_all_rows(self):
        for wishes in small_wishes() + [jumbled()] + some_wishes(93, (4, 4), (2, 4), (5, 3)):
            for wanted in all_wanted(wishes):
                expected = least(wishes, wanted)
                self.assertTrue(same_kind(row_with(wishes, wanted), expected))
                self.assertEqual(row_with(wishes, dict(reversed(wanted.items()))), expected)

    def test_parts_of_holdings(self):
        rng = seeded(94)
        for many, few in LARGER * 2 + [(7, 7), (6, 7), (16, 7)]:
            wishes = random_wishes(rng, many, few)
            holding = choose(wishes, rng.sample(wishes.guests(), few))
            rows = [(row, down_the_row(wishes.gifts(), wishes.rankings(), row))
                    for row in itertools.permutations(wishes.guests())]
            for count in range(few + 1):
                wanted = {guest: holding[guest] for guest in rng.sample(wishes.guests(), count)}
                found = row_with(wishes, wanted)
                self.assertEqual(found, [row for row, held in rows if wanted.items() <= held.items()][0])

    def test_by_name_and_unmodified(self):
        wanted = {"cal": "map", "ann": "hat"}
        self.assertEqual(row_with(wanted=wanted, wishes=three()), ("bob", "ann", "cal"))
        self.assertEqual(list(wanted.items()), [("cal", "map"), ("ann", "hat")])

    def test_values_that_are_no_dicts_of_guests(self):
        for wishes in (three(), crowd(8), crowd(16, 3)):
            first = wishes.guests()[0]
            for value in any_values() + [[first], first, {first: None, "nobody": None}, {"nobody": 7}, {first: 7, None: None},
                                         {(first,): None}, {True: None, first: "nothing"}, [(first, None)], {"": None}]:
                if not isinstance(value, dict) or not set(value) <= set(wishes.guests()):
                    with self.subTest(value=value):
                        self.assertIs(raised(self, InvalidHolding, row_with, wishes, value).guest, None)
                        error = raised(self, InvalidHolding, row_with, wishes=wishes, wanted=value)
                        self.assertIs(error.guest, None)

    def test_gifts_of_every_kind(self):
        for wishes in (three(), crowd(8), crowd(16, 3)):
            first, second, third = wishes.guests()[:3]
            gift = wishes.gifts()[0]
            for value in any_values() + ["nothing", first, [gift], (gift,), {gift: gift}, gift + " "]:
                if value is not None:
                    with self.subTest(value=value):
                        for wanted in ({second: value}, {third: 7, second: value, first: None}, {second: value, first: gift}):
                            self.assertEqual(raised(self, InvalidHolding, row_with, wishes, wanted).guest, second)
                            error = raised(self, InvalidHolding, row_with, wishes=wishes, wanted=wanted)
                            self.assertEqual(error.guest, second)
            for wanted, guest in (({first: gift, third: gift}, third), ({third: gift, second: gift}, third),
                                  ({third: gift, first: gift, second: 0}, second), ({third: gift, second: gift, first: gift},
                                                                                   second)):
                self.assertEqual(raised(self, InvalidHolding, row_with, wishes, wanted).guest, guest)

    def test_too_many_guests(self):
        for count in (8, 16):
            for wanted in ({}, {"pa": None, "pb": None}, {"pc": "ga"}):
                self.assertEqual(raised(self, TooLarge, row_with, crowd(count), wanted).limit, 7)
                self.assertEqual(raised(self, TooLarge, row_with, wishes=crowd(count), wanted=wanted).limit, 7)

    def test_defined_where_the_interface_lists_them(self):
        for function in (possible_gifts, row_with):
            self.assertEqual(function.__module__, possible.__name__)
