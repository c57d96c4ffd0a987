"""Points 20, 21 and 22: guests who leave, gifts that are added and gifts that break."""

import itertools
import unittest

from helpers import MANY_GIFTS, MANY_GUESTS, any_values, check_event, raised, random_party, same_kind, seeded
from helpers import small_parties, snapshot
from lastturn import changes
from lastturn.changes import add_gift, break_gift, leave
from lastturn.errors import DuplicateGift, InvalidName, InvalidRanking, TooLarge, UnknownGift, UnknownGuest
from lastturn.parties import Party
from lastturn.wishes import Wishes

BOTH = {"ann": ("vase", "lamp"), "bob": ("vase", "lamp")}


def example():
    return Party(Wishes(["lamp", "vase"], BOTH), ("bob", "ann"))


def crowded():
    return Party(Wishes(["lamp", "vase"], {**BOTH, "cy": ("vase", "lamp")}), ("bob", "ann", "cy"))


def full_party():
    gifts, guests = MANY_GIFTS[:16], MANY_GUESTS[:16]
    return Party(Wishes(gifts, {guest: gifts for guest in guests}), guests)


class LeaveTest(unittest.TestCase):
    def test_the_gift_is_offered_down_the_row(self):
        party, takes = leave(crowded(), "bob")
        self.assertEqual(takes, [("ann", "vase", None), ("cy", "lamp", None)])
        self.assertEqual([party.row(), party.holding()], [("ann", "cy"), {"ann": "vase", "cy": "lamp"}])
        party, takes = leave(crowded(), "ann")
        self.assertEqual([takes, party.row()], [[("cy", "lamp", None)], ("bob", "cy")])
        self.assertEqual(party.wishes().guests(), ["bob", "cy"])

    def test_a_guest_without_a_gift_leaves(self):
        party, takes = leave(crowded(), "cy")
        self.assertEqual([takes, party], [[], example()])

    def test_the_offer_ends_with_a_guest_without_a_gift(self):
        wishes = Wishes(["lamp"], {"ann": ["lamp"], "bob": ["lamp"], "cy": ["lamp"]})
        party, takes = leave(Party(wishes, ("cy", "bob", "ann")), "cy")
        self.assertEqual([takes, party.row()], [[("bob", "lamp", None)], ("bob", "ann")])

    def test_nobody_accepts(self):
        wishes = Wishes(["lamp", "vase"], {"ann": ("vase", "lamp"), "bob": ("lamp", "vase")})
        party, takes = leave(Party(wishes, ("bob", "ann")), "bob")
        self.assertEqual([takes, party.table(), party.holding()], [[], ["lamp"], {"ann": "vase"}])

    def test_the_last_guest_leaves(self):
        party, takes = leave(Party(Wishes(["lamp"], {"ann": ["lamp"]}), ["ann"]), "ann")
        self.assertEqual([takes, party], [[], Party(Wishes(["lamp"], {}), ())])

    def test_all_small_parties(self):
        for party in small_parties():
            for guest in party.wishes().guests():
                check_event(self, party, leave, (guest,), "leave")

    def test_large_parties(self):
        rng = seeded(4)
        for many, few in [(16, 16), (8, 16), (16, 8), (13, 14)] * 10:
            party = random_party(rng, many, few)
            for guest in party.row():
                check_event(self, party, leave, (guest,), "leave")

    def test_by_name(self):
        self.assertEqual(leave(guest="bob", party=crowded()), leave(crowded(), "bob"))

    def test_guests_of_every_kind(self):
        for value in any_values() + ["lamp", "cy", ("bob", "ann"), ["bob", "ann"]]:
            with self.subTest(value=value):
                self.assertTrue(same_kind(raised(self, UnknownGuest, leave, example(), value).guest, value))
                self.assertTrue(same_kind(raised(self, UnknownGuest, leave, party=example(), guest=value).guest, value))
        raised(self, UnknownGuest, leave, Party(Wishes(["lamp"], {}), ()), "lamp")


class AddTest(unittest.TestCase):
    def test_positions(self):
        party, takes = add_gift(example(), "ball", {"ann": 0, "bob": 0})
        self.assertEqual(takes, [("bob", "ball", None), ("ann", "vase", None)])
        self.assertEqual(party.wishes().rankings(), {"ann": ("ball", "vase", "lamp"), "bob": ("ball", "vase", "lamp")})
        self.assertEqual([party.wishes().gifts(), party.table()], [["lamp", "vase", "ball"], ["lamp"]])
        party, takes = add_gift(example(), "ball", {"bob": 1, "ann": 1})
        self.assertEqual([takes, party.table()], [[("ann", "ball", None)], ["lamp"]])
        self.assertEqual(party.wishes().ranking("ann"), ("vase", "ball", "lamp"))
        party, takes = add_gift(example(), "ball", {"ann": 2, "bob": 2})
        self.assertEqual([takes, party.table(), party.row()], [[], ["ball"], ("bob", "ann")])
        self.assertEqual(party.wishes().ranking("bob"), ("vase", "lamp", "ball"))
        party, takes = add_gift(example(), "ball", {"ann": 0, "bob": 2})
        self.assertEqual([takes, list(party.holding().items())], [[("ann", "ball", None)], [("ann", "ball"), ("bob", "vase")]])

    def test_a_guest_without_a_gift_takes_it(self):
        party, takes = add_gift(crowded(), "ball", {"ann": 2, "bob": 1, "cy": 2})
        self.assertEqual([takes, party.table()], [[("cy", "ball", None)], []])
        party, takes = add_gift(crowded(), "ball", {"ann": 0, "bob": 2, "cy": 2})
        self.assertEqual(takes, [("ann", "ball", None), ("cy", "lamp", None)])

    def test_the_first_gift_and_nobody_present(self):
        party, takes = add_gift(Party(Wishes([], {}), ()), "lamp", {})
        self.assertEqual([takes, party], [[], Party(Wishes(["lamp"], {}), ())])
        party, takes = add_gift(Party(Wishes([], {"ann": (), "bob": ()}), ("bob", "ann")), "lamp", {"ann": 0, "bob": 0})
        self.assertEqual([takes, party.holding()], [[("bob", "lamp", None)], {"ann": None, "bob": "lamp"}])

    def test_a_gift_may_have_the_name_of_a_guest(self):
        self.assertEqual(add_gift(example(), "ann", {"ann": 0, "bob": 2})[1], [("ann", "ann", None)])

    def test_the_sixteenth_gift(self):
        party = Party(Wishes(MANY_GIFTS[:15], {"ann": MANY_GIFTS[:15]}), ["ann"])
        party, takes = add_gift(party, "lamp", {"ann": 15})
        self.assertEqual([takes, party.wishes().ranking("ann")], [[], tuple(MANY_GIFTS[:15]) + ("lamp",)])

    def test_all_small_parties(self):
        for party in small_parties():
            guests = party.wishes().guests()
            for chosen in itertools.product(range(len(party.wishes().gifts()) + 1), repeat=len(guests)):
                check_event(self, party, add_gift, ("kite", dict(reversed(list(zip(guests, chosen))))), "add")

    def test_large_parties(self):
        rng = seeded(5)
        for many, few in [(15, 16), (8, 16), (15, 8), (0, 16)] * 20:
            party = random_party(rng, many, few)
            places = {guest: rng.randint(0, many) for guest in party.row()}
            check_event(self, party, add_gift, ("kite", places), "add")

    def test_copies(self):
        places = {"ann": 0, "bob": 2}
        party, takes = add_gift(example(), "ball", places)
        before = snapshot(party)
        places["ann"] = 2
        takes.append(None)
        self.assertEqual(snapshot(party), before)
        self.assertEqual(add_gift(example(), "ball", {"ann": 0, "bob": 2})[1], [("ann", "ball", None)])

    def test_by_name(self):
        places = {"ann": 0, "bob": 1}
        self.assertEqual(add_gift(places=places, gift="ball", party=example()), add_gift(example(), "ball", places))

    def test_names_of_every_kind(self):
        for value in any_values():
            for party in (example(), full_party()):
                for places in ({"ann": 0, "bob": 0}, None, value):
                    with self.subTest(value=value):
                        error = raised(self, InvalidName, add_gift, party, value, places)
                        self.assertTrue(same_kind(error.name, value))

    def test_gifts_that_are_there(self):
        for places in ({"ann": 0, "bob": 0}, None, {}, 7):
            self.assertEqual(raised(self, DuplicateGift, add_gift, example(), "vase", places).gift, "vase")
            self.assertEqual(raised(self, DuplicateGift, add_gift, full_party(), "gp", places).gift, "gp")

    def test_too_many_gifts(self):
        for places in ({guest: 0 for guest in MANY_GUESTS[:16]}, None, {}, []):
            self.assertEqual(raised(self, TooLarge, add_gift, full_party(), "lamp", places).limit, 16)

    def test_places_of_every_kind(self):
        wrong = any_values() + [{"ann": 0}, {"bob": 0}, {"ann": 0, "bob": 0, "cy": 0}, {"ann": 0, "cy": 0}, [0, 0],
                                {"ann": 0, "bob": 0, None: 0}, {"ann": [], "zoe": 0}, (0, 0), [("ann", 0), ("bob", 0)]]
        for value in wrong:
            with self.subTest(value=value):
                self.assertIs(raised(self, InvalidRanking, add_gift, example(), "ball", value).guest, None)
        for value in any_values():
            if value != {}:
                empty = Party(Wishes(["lamp"], {}), ())
                self.assertIs(raised(self, InvalidRanking, add_gift, empty, "ball", value).guest, None)

    def test_a_place_of_every_kind(self):
        good = (0, 1, 2)
        for value in any_values() + [3, 4, -2, "0", [0], (1,), {0: 0}]:
            if type(value) is int and value in good:
                continue
            with self.subTest(value=value):
                for places in ({"ann": value, "bob": value}, {"bob": value, "ann": value}, {"bob": 0, "ann": value}):
                    error = raised(self, InvalidRanking, add_gift, example(), "ball", places)
                    self.assertEqual(error.guest, "ann")
                for places in ({"ann": 0, "bob": value}, {"bob": value, "ann": 2}):
                    error = raised(self, InvalidRanking, add_gift, party=example(), gift="ball", places=places)
                    self.assertEqual(error.guest, "bob")

    def test_the_only_place_without_gifts(self):
        party = Party(Wishes([], {"ann": ()}), ("ann",))
        for value in (1, -1, True, False, None):
            self.assertEqual(raised(self, InvalidRanking, add_gift, party, "lamp", {"ann": value}).guest, "ann")


class BreakTest(unittest.TestCase):
    def test_example_of_the_document(self):
        party, takes = break_gift(example(), "vase")
        self.assertEqual([party.holding(), takes],
                         [{"ann": None, "bob": "lamp"}, [("bob", "lamp", "ann"), ("ann", None, None)]])
        self.assertEqual([party.row(), party.wishes().gifts()], [("bob", "ann"), ["lamp"]])
        self.assertEqual(party.wishes().rankings(), {"ann": ("lamp",), "bob": ("lamp",)})

    def test_a_gift_of_the_table_breaks(self):
        party = Party(Wishes(["lamp", "vase"], {"ann": ("vase", "lamp")}), ["ann"])
        party, takes = break_gift(party, "lamp")
        self.assertEqual([takes, party], [[], Party(Wishes(["vase"], {"ann": ["vase"]}), ["ann"])])

    def test_a_gift_of_the_table_is_taken(self):
        rankings = {"ann": ("vase", "kite", "lamp"), "bob": ("vase", "lamp", "kite")}
        party, takes = break_gift(Party(Wishes(["lamp", "vase", "kite"], rankings), ("bob", "ann")), "vase")
        self.assertEqual([takes, party.row()], [[("bob", "lamp", None)], ("bob", "ann")])
        self.assertEqual(party.holding(), {"ann": "kite", "bob": "lamp"})

    def test_guests_ahead_keep_their_gifts(self):
        rankings = {"ann": ("lamp", "vase", "kite"), "bob": ("vase", "lamp", "kite")}
        party, takes = break_gift(Party(Wishes(["lamp", "vase", "kite"], rankings), ("ann", "bob")), "vase")
        self.assertEqual([takes, party.holding()], [[("bob", "kite", None)], {"ann": "lamp", "bob": "kite"}])

    def test_a_chain_of_takers(self):
        rankings = {name: ("cup", "hat", "map", "pen") for name in ("cal", "bob", "ann")}
        party, takes = break_gift(Party(Wishes(["cup", "hat", "map", "pen"], rankings), ("ann", "bob", "cal")), "cup")
        self.assertEqual(takes, [("ann", "hat", "bob"), ("bob", "map", "cal"), ("cal", "pen", None)])
        self.assertEqual(party.row(), ("ann", "bob", "cal"))
        party, takes = break_gift(party, "pen")
        self.assertEqual([takes, party.holding()], [[("cal", None, None)], {"cal": None, "bob": "map", "ann": "hat"}])

    def test_the_last_gift_breaks(self):
        party, takes = break_gift(Party(Wishes(["lamp"], {"ann": ["lamp"]}), ["ann"]), "lamp")
        self.assertEqual([takes, party], [[("ann", None, None)], Party(Wishes([], {"ann": ()}), ["ann"])])
        party, takes = break_gift(Party(Wishes(["lamp"], {}), ()), "lamp")
        self.assertEqual([takes, party], [[], Party(Wishes([], {}), ())])

    def test_all_small_parties(self):
        for party in small_parties():
            for gift in party.wishes().gifts():
                check_event(self, party, break_gift, (gift,), "break_gift")

    def test_large_parties(self):
        rng = seeded(6)
        for many, few in [(16, 16), (8, 16), (16, 8), (13, 12)] * 10:
            party = random_party(rng, many, few)
            for gift in party.wishes().gifts():
                check_event(self, party, break_gift, (gift,), "break_gift")

    def test_by_name(self):
        self.assertEqual(break_gift(gift="vase", party=example()), break_gift(example(), "vase"))

    def test_gifts_of_every_kind(self):
        for value in any_values() + ["ann", "bob", "ball", ("lamp", "vase"), ["lamp", "vase"]]:
            with self.subTest(value=value):
                self.assertTrue(same_kind(raised(self, UnknownGift, break_gift, example(), value).gift, value))
                self.assertTrue(same_kind(raised(self, UnknownGift, break_gift, party=example(), gift=value).gift, value))
        raised(self, UnknownGift, break_gift, Party(Wishes([], {"ann": ()}), ["ann"]), "ann")

    def test_defined_where_the_interface_lists_them(self):
        self.assertEqual([function.__module__ for function in (leave, add_gift, break_gift)], [changes.__name__] * 3)
