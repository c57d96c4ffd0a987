"""Points 15 to 19: arrivals, turns, and the offer after a turn."""

import itertools
import unittest

from helpers import MANY_GIFTS, MANY_GUESTS, any_values, check_event, raised, random_party, same_kind, seeded
from helpers import small_parties, snapshot
from lastturn import rounds
from lastturn.errors import DuplicateGuest, InvalidName, InvalidRanking, TooLarge, UnknownGuest
from lastturn.parties import Party
from lastturn.rounds import arrive, turn
from lastturn.wishes import Wishes

FIVE = {"ann": ("cup", "hat", "map", "pen", "key"), "bob": ("cup", "map", "hat", "pen", "key"),
        "cal": ("map", "pen", "hat", "cup", "key"), "dan": ("map", "pen", "key", "cup", "hat")}


def example():
    return Party(Wishes(["lamp", "vase"], {"ann": ("vase", "lamp"), "bob": ("vase", "lamp")}), ("bob", "ann"))


def five(**other):
    return Party(Wishes(["cup", "hat", "map", "pen", "key"], {**FIVE, **other}), ("ann", "bob", "cal", "dan"))


def full_party():
    """Return a party of sixteen guests who all like the gifts in gift order; the last gift is on the table."""
    gifts, guests = MANY_GIFTS[:16], MANY_GUESTS[:16]
    return Party(Wishes(gifts, {guest: gifts for guest in guests}), guests)


class ArriveTest(unittest.TestCase):
    def test_example_of_the_document(self):
        party, takes = arrive(example(), "cy", ("vase", "lamp"))
        self.assertEqual([party.row(), takes],
                         [("cy", "bob", "ann"), [("cy", "vase", "bob"), ("bob", "lamp", "ann"), ("ann", None, None)]])
        self.assertEqual(list(party.holding().items()), [("ann", None), ("bob", "lamp"), ("cy", "vase")])

    def test_first_guests(self):
        empty = Party(Wishes(["lamp", "vase"], {}), ())
        party, takes = arrive(empty, "zoe", ["vase", "lamp"])
        self.assertEqual([party.row(), takes, party.table()], [("zoe",), [("zoe", "vase", None)], ["lamp"]])
        party, takes = arrive(party, "ann", ["vase", "lamp"])
        self.assertEqual([party.row(), takes], [("ann", "zoe"), [("ann", "vase", "zoe"), ("zoe", "lamp", None)]])
        self.assertEqual(party.wishes().guests(), ["zoe", "ann"])
        self.assertEqual(list(party.holding().items()), [("zoe", "lamp"), ("ann", "vase")])

    def test_without_gifts(self):
        party, takes = arrive(Party(Wishes([], {}), ()), "ann", ())
        self.assertEqual([party.row(), takes, party.holding()], [("ann",), [("ann", None, None)], {"ann": None}])
        party, takes = arrive(party, "bob", [])
        self.assertEqual([party.row(), takes], [("bob", "ann"), [("bob", None, None)]])

    def test_who_goes_without_stands_last_among_the_takers(self):
        rankings = {"ann": ("lamp",), "cy": ("lamp",), "bob": ("lamp",)}
        party, takes = arrive(Party(Wishes(["lamp"], rankings), ("cy", "ann", "bob")), "dan", ("lamp",))
        self.assertEqual(takes, [("dan", "lamp", "cy"), ("cy", None, None)])
        self.assertEqual(party.row(), ("dan", "cy", "ann", "bob"))

    def test_the_others_keep_their_order(self):
        party, takes = arrive(five(), "eve", ("pen", "cup", "hat", "map", "key"))
        # Eve takes the pen from Cal, who likes the map better, takes it from Bob, and so on.
        self.assertEqual(takes, [("eve", "pen", "cal"), ("cal", "map", "bob"), ("bob", "cup", "ann"), ("ann", "hat", None)])
        self.assertEqual(party.row(), ("eve", "cal", "bob", "ann", "dan"))
        party, takes = arrive(five(), "eve", ("hat", "pen", "cup", "map", "key"))
        self.assertEqual([takes, party.row()], [[("eve", "hat", None)], ("eve", "ann", "bob", "cal", "dan")])

    def test_sixteen_takers(self):
        gifts, guests = MANY_GIFTS[:16], MANY_GUESTS[:16]
        party = Party(Wishes(gifts, {guest: gifts for guest in guests[:15]}), guests[:15])
        party, takes = arrive(party, guests[15], gifts)
        row = [guests[15]] + guests[:15]
        self.assertEqual(takes, list(zip(row, gifts, row[1:] + [None])))
        self.assertEqual(party.row(), tuple(row))
        self.assertEqual(party.wishes().guests(), guests)

    def test_all_small_parties(self):
        for party in small_parties():
            gifts = party.wishes().gifts()
            for ranking in itertools.permutations(gifts):
                after = check_event(self, party, arrive, ("zoe", ranking), "arrive")
                self.assertEqual(after.wishes().guests(), party.wishes().guests() + ["zoe"])
                self.assertTrue(same_kind(after.wishes().ranking("zoe"), ranking))

    def test_large_parties(self):
        rng = seeded(2)
        for many, few in [(16, 15), (8, 15), (16, 8), (15, 14)] * 20:
            party = random_party(rng, many, few)
            check_event(self, party, arrive, ("zoe", rng.sample(party.wishes().gifts(), many)), "arrive")

    def test_copies(self):
        ranking = ["vase", "lamp"]
        party, takes = arrive(example(), "cy", ranking)
        before = snapshot(party)
        ranking.reverse()
        takes.clear()
        self.assertEqual(snapshot(party), before)
        self.assertEqual(len(arrive(example(), "cy", ["vase", "lamp"])[1]), 3)

    def test_by_name(self):
        self.assertEqual(arrive(ranking=("vase", "lamp"), guest="cy", party=example()),
                         arrive(example(), "cy", ("vase", "lamp")))

    def test_a_guest_may_have_the_name_of_a_gift(self):
        self.assertEqual(arrive(example(), "vase", ["lamp", "vase"])[1], [("vase", "lamp", "ann"), ("ann", "vase", "bob"),
                                                                          ("bob", None, None)])

    def test_names_of_every_kind(self):
        for value in any_values():
            for party in (example(), full_party()):
                for ranking in (("vase", "lamp"), None, [], value):
                    with self.subTest(value=value):
                        error = raised(self, InvalidName, arrive, party, value, ranking)
                        self.assertTrue(same_kind(error.name, value))

    def test_guests_who_are_present(self):
        for ranking in (("vase", "lamp"), None, []):
            self.assertEqual(raised(self, DuplicateGuest, arrive, example(), "ann", ranking).guest, "ann")
            self.assertEqual(raised(self, DuplicateGuest, arrive, full_party(), "pp", ranking).guest, "pp")

    def test_too_many_guests(self):
        for ranking in (MANY_GIFTS[:16], None, []):
            self.assertEqual(raised(self, TooLarge, arrive, full_party(), "zoe", ranking).limit, 16)

    def test_rankings_of_every_kind(self):
        wrong = any_values() + ["lamp", ["lamp"], ("vase",), ["lamp", "lamp"], ("lamp", "vase", "ball"), ["lamp", ["vase"]],
                                {"lamp": 0, "vase": 1}, ["lamp", "ball"], "lampvase", [["lamp", "vase"]]]
        for value in wrong:
            with self.subTest(value=value):
                self.assertEqual(raised(self, InvalidRanking, arrive, example(), "cy", value).guest, "cy")
                self.assertEqual(raised(self, InvalidRanking, arrive, party=example(), guest="cy", ranking=value).guest,
                                 "cy")
        self.assertEqual(raised(self, InvalidRanking, arrive, Party(Wishes([], {}), ()), "cy", "").guest, "cy")

    def test_errors_change_nothing(self):
        party = example()
        raised(self, InvalidRanking, arrive, party, "cy", ())
        raised(self, UnknownGuest, turn, party, "cy")
        self.assertEqual(party, example())


class TurnTest(unittest.TestCase):
    def test_example_of_the_document(self):
        self.assertEqual(turn(example(), "ann")[1], [("ann", "vase", "bob"), ("bob", "lamp", None)])
        self.assertEqual(turn(example(), "ann")[0].row(), ("ann", "bob"))

    def test_the_own_gift_is_taken_again(self):
        party, takes = turn(example(), "bob")
        self.assertEqual([takes, party], [[("bob", "vase", None)], example()])
        wishes = Wishes(["lamp", "vase"], {"ann": ("vase", "lamp"), "bob": ("lamp", "vase")})
        party, takes = turn(Party(wishes, ("ann", "bob")), "bob")
        self.assertEqual([takes, party.row()], [[("bob", "lamp", None)], ("bob", "ann")])

    def test_who_goes_without_stands_last_among_the_takers(self):
        rankings = {"ann": ("lamp",), "cy": ("lamp",), "bob": ("lamp",)}
        party, takes = turn(Party(Wishes(["lamp"], rankings), ("ann", "cy", "bob")), "bob")
        self.assertEqual([takes, party.row()], [[("bob", "lamp", "ann"), ("ann", None, None)], ("bob", "ann", "cy")])

    def test_without_gifts(self):
        wishes = Wishes([], {"ann": (), "bob": ()})
        party, takes = turn(Party(wishes, ("ann", "bob")), "bob")
        self.assertEqual([takes, party.row()], [[("bob", None, None)], ("bob", "ann")])

    def test_the_offer_goes_down_the_new_row(self):
        party, takes = turn(five(), "bob")
        self.assertEqual(takes, [("bob", "cup", "ann"), ("ann", "hat", None), ("cal", "map", None), ("dan", "pen", None)])
        self.assertEqual(party.row(), ("bob", "ann", "cal", "dan"))
        self.assertEqual(party.holding(), {"ann": "hat", "bob": "cup", "cal": "map", "dan": "pen"})
        self.assertEqual(party.table(), ["key"])

    def test_the_offer_passes_who_likes_the_own_gift_better(self):
        party, takes = turn(five(cal=("pen", "map", "hat", "cup", "key")), "bob")
        self.assertEqual(takes, [("bob", "cup", "ann"), ("ann", "hat", None), ("dan", "map", None)])
        self.assertEqual([party.row(), party.table()], [("bob", "ann", "cal", "dan"), ["key"]])

    def test_an_offer_that_nobody_accepts(self):
        happy = {"cal": ("pen", "map", "hat", "cup", "key"), "dan": ("key", "map", "pen", "cup", "hat")}
        party, takes = turn(five(**happy), "bob")
        self.assertEqual(takes, [("bob", "cup", "ann"), ("ann", "hat", None)])
        self.assertEqual([party.row(), party.table()], [("bob", "ann", "cal", "dan"), ["map"]])

    def test_only_the_gift_that_was_laid_down_is_offered(self):
        # Bob takes his own gift again; the hat stays on the table without being offered.
        party, takes = turn(five(ann=("pen", "cup", "hat", "map", "key")), "bob")
        self.assertEqual(takes, [("bob", "cup", None)])
        self.assertEqual(party.table(), ["hat"])

    def test_all_small_parties(self):
        for party in small_parties():
            for guest in party.wishes().guests():
                after = check_event(self, party, turn, (guest,), "turn")
                self.assertEqual(after.wishes(), party.wishes())

    def test_large_parties(self):
        rng = seeded(3)
        accepted = []
        for many, few in [(16, 16), (8, 16), (16, 8), (6, 4)] * 10 + [(16, 13), (16, 14)] * 60:
            party = random_party(rng, many, few)
            for guest in party.row():
                takes = turn(party, guest)[1]
                accepted.append([source for _, _, source in takes].count(None) - 1)
                check_event(self, party, turn, (guest,), "turn")
        # Offers that somebody accepts are rare, and the test is worth little without them.
        self.assertGreater(len([many for many in accepted if many > 0]), 30)
        self.assertGreater(len([many for many in accepted if many > 1]), 5)

    def test_new_results(self):
        party = five()
        takes = turn(party, "bob")[1]
        takes.clear()
        self.assertEqual(len(turn(party, "bob")[1]), 4)
        self.assertEqual(party, five())

    def test_by_name(self):
        self.assertEqual(turn(guest="ann", party=example()), turn(example(), "ann"))

    def test_guests_of_every_kind(self):
        for value in any_values() + ["lamp", "vase", "cy", ("bob", "ann"), ["bob", "ann"]]:
            with self.subTest(value=value):
                self.assertTrue(same_kind(raised(self, UnknownGuest, turn, example(), value).guest, value))
                self.assertTrue(same_kind(raised(self, UnknownGuest, turn, party=example(), guest=value).guest, value))
        self.assertEqual(raised(self, UnknownGuest, turn, Party(Wishes(["lamp"], {}), ()), "lamp").guest, "lamp")

    def test_defined_where_the_interface_lists_them(self):
        self.assertEqual([arrive.__module__, turn.__module__], [rounds.__name__] * 2)
