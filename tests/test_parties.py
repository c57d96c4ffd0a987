"""Points 12, 13 and 14: rows, holdings, choosing down a row, and Parties."""

import copy
import itertools
import unittest

from helpers import MANY_GIFTS, MANY_GUESTS, all_wishes, any_values, down_the_row, raised, random_wishes, same_kind
from helpers import seeded, small_parties, snapshot
from lastturn import parties
from lastturn.errors import InvalidHolding, InvalidRow
from lastturn.parties import Party, choose, table_gifts
from lastturn.wishes import Wishes

GIFTS = ["cup", "hat", "map"]
RANKINGS = {"bob": ("cup", "map", "hat"), "ann": ("cup", "hat", "map"), "cal": ("hat", "cup", "map")}


def example():
    return Wishes(["lamp", "vase"], {"ann": ("vase", "lamp"), "bob": ("vase", "lamp")})


def three():
    return Wishes(GIFTS, RANKINGS)


def wrong_rows(guests):
    """Return values that are no row of these three guests."""
    first, second, third = guests
    return any_values() + [
        guests[:2], guests[:1], guests + [first], guests + ["zoe"], [first, second, second], (first, second, "zoe"),
        [first, second, None], (first, second, [third]), [first, second, True], [first, second, {}], [guests],
        dict.fromkeys(guests), {0: first, 1: second, 2: third}, "".join(guests), " ".join(guests), [first, second, ""],
        tuple(guests) + ((),), [(first,), (second,), (third,)], GIFTS,
    ]


class ChooseTest(unittest.TestCase):
    def test_by_hand(self):
        self.assertEqual(choose(three(), ("ann", "bob", "cal")), {"bob": "map", "ann": "cup", "cal": "hat"})
        self.assertEqual(choose(three(), ("cal", "bob", "ann")), {"bob": "cup", "ann": "map", "cal": "hat"})
        self.assertEqual(choose(three(), ("bob", "ann", "cal")), {"bob": "cup", "ann": "hat", "cal": "map"})

    def test_fewer_and_more_gifts_than_guests(self):
        rankings = {"bob": ("lamp",), "ann": ("lamp",), "cy": ("lamp",)}
        wishes = Wishes(["lamp"], rankings)
        self.assertEqual(choose(wishes, ("cy", "ann", "bob")), {"bob": None, "ann": None, "cy": "lamp"})
        wishes = Wishes(GIFTS, {"ann": ("map", "hat", "cup")})
        self.assertEqual(choose(wishes, ("ann",)), {"ann": "map"})
        self.assertEqual(choose(Wishes([], {"ann": (), "bob": ()}), ("bob", "ann")), {"ann": None, "bob": None})
        self.assertEqual(choose(Wishes(GIFTS, {}), ()), {})
        self.assertEqual(choose(Wishes([], {}), []), {})

    def test_all_small_wishes_and_rows(self):
        for many in range(4):
            for few in range(4 if many < 3 else 3):
                for wishes in all_wishes(many, few):
                    for row in itertools.permutations(wishes.guests()):
                        expected = down_the_row(wishes.gifts(), wishes.rankings(), row)
                        found = choose(wishes, row)
                        self.assertTrue(same_kind(found, {guest: expected[guest] for guest in wishes.guests()}))

    def test_large_wishes(self):
        rng = seeded(1)
        for many, few in ((16, 16), (3, 16), (16, 4), (12, 13)):
            wishes = random_wishes(rng, many, few)
            row = rng.sample(wishes.guests(), few)
            self.assertEqual(choose(wishes, row), down_the_row(wishes.gifts(), wishes.rankings(), row))

    def test_a_new_dict_in_guest_order_for_lists_and_tuples(self):
        wishes = three()
        for row in itertools.permutations(["ann", "bob", "cal"]):
            given = list(row)
            found = choose(wishes, given)
            self.assertIs(type(found), dict)
            self.assertEqual(list(found), ["bob", "ann", "cal"])
            self.assertEqual(found, choose(wishes, row))
            self.assertEqual(given, list(row))
            found.clear()
            self.assertEqual(len(choose(wishes, row)), 3)
        self.assertEqual(wishes, three())

    def test_by_name(self):
        self.assertEqual(choose(row=("bob", "ann"), wishes=example()), {"ann": "lamp", "bob": "vase"})

    def test_rows_of_every_kind(self):
        for value in wrong_rows(["bob", "ann", "cal"]):
            with self.subTest(value=value):
                raised(self, InvalidRow, choose, three(), value)
                raised(self, InvalidRow, Party, three(), value)
                raised(self, InvalidRow, Party, wishes=three(), row=value)

    def test_rows_without_guests(self):
        for value in any_values():
            if value in ((), []):
                self.assertEqual(choose(Wishes(GIFTS, {}), value), {})
            else:
                raised(self, InvalidRow, choose, Wishes(GIFTS, {}), value)
        raised(self, InvalidRow, choose, Wishes([], {"ann": ()}), ())
        raised(self, InvalidRow, choose, Wishes([], {"a": (), "b": ()}), "ab")


class TableGiftsTest(unittest.TestCase):
    def test_gift_order(self):
        wishes = Wishes(["vase", "ball", "lamp", "kite"], {"bob": ["kite", "lamp", "ball", "vase"],
                                                           "ann": ["kite", "lamp", "ball", "vase"]})
        for one, other in itertools.permutations(wishes.gifts() + [None], 2):
            expected = [gift for gift in wishes.gifts() if gift not in (one, other)]
            self.assertTrue(same_kind(table_gifts(wishes, {"bob": one, "ann": other}), expected))
            self.assertTrue(same_kind(table_gifts(wishes, {"ann": other, "bob": one}), expected))
        self.assertEqual(table_gifts(wishes, {"ann": None, "bob": None}), ["vase", "ball", "lamp", "kite"])

    def test_no_gifts_and_no_guests(self):
        self.assertEqual(table_gifts(Wishes([], {}), {}), [])
        self.assertEqual(table_gifts(Wishes(GIFTS, {}), {}), GIFTS)
        self.assertEqual(table_gifts(Wishes([], {"ann": ()}), {"ann": None}), [])
        self.assertEqual(table_gifts(three(), {"ann": "cup", "bob": "hat", "cal": "map"}), [])

    def test_a_new_list_and_an_unmodified_holding(self):
        wishes = three()
        holding = {"cal": "cup", "ann": None, "bob": None}
        table_gifts(wishes, holding).append("more")
        self.assertEqual(table_gifts(wishes, holding), ["hat", "map"])
        self.assertEqual(list(holding.items()), [("cal", "cup"), ("ann", None), ("bob", None)])
        self.assertEqual(wishes.gifts(), GIFTS)

    def test_by_name(self):
        self.assertEqual(table_gifts(holding={"ann": "lamp", "bob": None}, wishes=example()), ["vase"])

    def test_holdings_of_every_kind(self):
        whole = {"bob": "cup", "ann": "hat", "cal": None}
        wrong = any_values() + [
            {"bob": "cup", "ann": "hat"}, {**whole, "zoe": None}, {"bob": "cup", "ann": "hat", "zoe": None},
            {**whole, None: None}, {"bob": 0, "ann": [], "dan": {}}, list(whole), list(whole.items()), "bob",
            {"bob": "cup", "ann": "hat", ("cal",): None}, {"cup": "bob", "hat": "ann", "map": "cal"},
            tuple(whole.items()), {"bob": "cup", "ann": "hat", True: None},
        ]
        for value in wrong:
            with self.subTest(value=value):
                self.assertIs(raised(self, InvalidHolding, table_gifts, three(), value).guest, None)

    def test_gifts_of_a_guest_of_every_kind(self):
        wrong = [value for value in any_values() if value is not None]
        for value in wrong + ["ann", "bob", "lamp", "cu", ["cup"], ("map",), {"map": None}, "cuphat"]:
            with self.subTest(value=value):
                for holding in ({"bob": "cup", "ann": value, "cal": 0}, {"cal": [], "ann": value, "bob": None}):
                    self.assertEqual(raised(self, InvalidHolding, table_gifts, three(), holding).guest, "ann")

    def test_a_gift_is_held_once(self):
        # The guests are bob, ann, cal in guest order.
        cases = [({"bob": "cup", "ann": "cup", "cal": 5}, "ann"), ({"ann": "cup", "bob": "cup", "cal": None}, "ann"),
                 ({"cal": "map", "ann": "hat", "bob": "map"}, "cal"), ({"cal": "map", "ann": "map", "bob": None}, "cal"),
                 ({"cal": 1, "ann": 2, "bob": 3}, "bob"), ({"cal": "hat", "ann": 2, "bob": "hat"}, "ann")]
        for holding, guest in cases:
            self.assertEqual(raised(self, InvalidHolding, table_gifts, three(), holding).guest, guest)

    def test_errors_without_guests(self):
        for value in any_values():
            if value != {}:
                self.assertIs(raised(self, InvalidHolding, table_gifts, Wishes(GIFTS, {}), value).guest, None)


class PartyTest(unittest.TestCase):
    def test_example_of_the_document(self):
        party = Party(example(), ("bob", "ann"))
        self.assertEqual(party.holding(), {"ann": "lamp", "bob": "vase"})

    def test_answers(self):
        for row in itertools.permutations(["ann", "bob", "cal"]):
            for kind in (list, tuple):
                party = Party(three(), kind(row))
                self.assertEqual(party.wishes(), three())
                self.assertIs(type(party.wishes()), Wishes)
                self.assertTrue(same_kind(party.row(), row))
                self.assertTrue(same_kind(party.holding(), choose(three(), row)))
                self.assertTrue(same_kind(party.table(), []))

    def test_table_in_gift_order(self):
        wishes = Wishes(["vase", "ball", "lamp", "kite"], {"bob": ["kite", "lamp", "ball", "vase"],
                                                           "ann": ["lamp", "kite", "ball", "vase"]})
        self.assertEqual(Party(wishes, ("ann", "bob")).table(), ["vase", "ball"])
        self.assertEqual(Party(Wishes(GIFTS, {}), ()).table(), GIFTS)
        self.assertEqual(Party(Wishes([], {"ann": ()}), ["ann"]).table(), [])

    def test_all_small_parties(self):
        for party in small_parties():
            wishes = party.wishes()
            expected = down_the_row(wishes.gifts(), wishes.rankings(), party.row())
            self.assertEqual(party.holding(), expected)
            self.assertEqual(list(party.holding()), wishes.guests())
            self.assertEqual(party.table(), [gift for gift in wishes.gifts() if gift not in expected.values()])

    def test_sixteen_of_each(self):
        gifts, guests = MANY_GIFTS[:16], MANY_GUESTS[:16]
        party = Party(Wishes(gifts, {guest: gifts for guest in guests}), guests[::-1])
        self.assertEqual(party.holding(), dict(zip(guests, gifts[::-1])))
        self.assertEqual(party.table(), [])

    def test_copies(self):
        gifts, rankings, row = list(GIFTS), {name: list(ranking) for name, ranking in RANKINGS.items()}, ["ann", "cal"]
        row.append("bob")
        kept = copy.deepcopy((gifts, rankings, row))
        party = Party(Wishes(gifts, rankings), row)
        before = snapshot(party)
        self.assertEqual((gifts, rankings, row), kept)
        row.reverse()
        rankings["ann"].reverse()
        gifts.clear()
        party.holding()["ann"] = None
        party.holding().clear()
        party.table().append("more")
        party.wishes().gifts().clear()
        party.wishes().rankings().clear()
        self.assertEqual(snapshot(party), before)
        self.assertEqual(party, Party(three(), ("ann", "cal", "bob")))
        for method in (party.holding, party.table):
            self.assertIsNot(method(), method())

    def test_equality(self):
        party = Party(three(), ("ann", "bob", "cal"))
        self.assertTrue(party == Party(three(), ["ann", "bob", "cal"]))
        self.assertFalse(party != Party(three(), ["ann", "bob", "cal"]))
        same_holding = Party(three(), ("ann", "cal", "bob"))
        self.assertEqual(same_holding.holding(), party.holding())
        other_order = Wishes(GIFTS, dict(sorted(RANKINGS.items())))
        other_gifts = Wishes(GIFTS[::-1], RANKINGS)
        for other in (same_holding, Party(three(), ("bob", "ann", "cal")), Party(other_order, ("ann", "bob", "cal")),
                      Party(other_gifts, ("ann", "bob", "cal")), Party(Wishes(GIFTS, {}), ())):
            self.assertFalse(party == other)
            self.assertTrue(party != other)
            self.assertFalse(other == party)

    def test_other_kinds_are_not_equal(self):
        party = Party(three(), ("ann", "bob", "cal"))

        class Likeness:
            """Looks like the party, but is of another kind."""

            def __init__(self):
                self.__dict__.update(vars(party))
                self.wishes, self.row, self.holding, self.table = party.wishes, party.row, party.holding, party.table

        for other in any_values() + [Likeness(), object(), three(), party.row(), party.holding(), (three(), party.row())]:
            self.assertFalse(party == other)
            self.assertTrue(party != other)
            self.assertFalse(other == party)

    def test_by_name(self):
        self.assertEqual(Party(row=["bob", "ann"], wishes=example()), Party(example(), ("bob", "ann")))

    def test_defined_where_the_interface_lists_them(self):
        for value in (choose, table_gifts, Party):
            self.assertEqual(value.__module__, parties.__name__)
        for name in ("wishes", "row", "holding", "table"):
            self.assertIn(name, vars(Party))
