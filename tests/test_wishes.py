"""Points 2, 3, 10 and 11: Wishes."""

import copy
import itertools
import unittest

from helpers import MANY_GIFTS, MANY_GUESTS, any_values, raised, same_kind
from lastturn.errors import InvalidGifts, InvalidName, InvalidRanking, TooLarge, UnknownGift, UnknownGuest
from lastturn.wishes import Wishes

GIFTS = ["lamp", "vase", "ball"]
RANKINGS = {"bob": ("vase", "lamp", "ball"), "ann": ("ball", "lamp", "vase"), "cy": ("vase", "ball", "lamp")}


def example():
    return Wishes(["lamp", "vase"], {"ann": ("vase", "lamp"), "bob": ("vase", "lamp")})


class Likeness:
    """Looks like Wishes, but is of another kind."""

    def __init__(self, wishes):
        self.__dict__.update(vars(wishes))
        self.gifts = wishes.gifts
        self.guests = wishes.guests
        self.rankings = wishes.rankings


class AnswersTest(unittest.TestCase):
    def test_example_of_the_document(self):
        wishes = example()
        self.assertEqual([wishes.guests(), wishes.ranking("ann"), wishes.prefers("bob", "lamp", "vase")],
                         [["ann", "bob"], ("vase", "lamp"), False])

    def test_gifts_and_guests_keep_their_order(self):
        wishes = Wishes(GIFTS, RANKINGS)
        self.assertTrue(same_kind(wishes.gifts(), ["lamp", "vase", "ball"]))
        self.assertTrue(same_kind(wishes.guests(), ["bob", "ann", "cy"]))
        self.assertTrue(same_kind(list(wishes.rankings().items()), list(RANKINGS.items())))
        self.assertIs(type(wishes.rankings()), dict)

    def test_rankings_are_tuples_from_lists_and_tuples(self):
        for kind in (list, tuple):
            for inner in (list, tuple):
                wishes = Wishes(kind(GIFTS), {guest: inner(ranking) for guest, ranking in RANKINGS.items()})
                self.assertTrue(same_kind(wishes.gifts(), GIFTS))
                self.assertTrue(same_kind(wishes.rankings(), RANKINGS))
                for guest, ranking in RANKINGS.items():
                    self.assertTrue(same_kind(wishes.ranking(guest), ranking))

    def test_prefers_for_all_pairs(self):
        wishes = Wishes(GIFTS, RANKINGS)
        for guest, ranking in RANKINGS.items():
            for one, other in itertools.product(GIFTS, repeat=2):
                self.assertIs(wishes.prefers(guest, one, other), ranking.index(one) < ranking.index(other))

    def test_no_gifts_and_no_guests(self):
        for gifts in ([], ()):
            wishes = Wishes(gifts, {})
            self.assertEqual([wishes.gifts(), wishes.guests(), wishes.rankings()], [[], [], {}])
            alone = Wishes(gifts, {"ann": [], "bob": ()})
            self.assertEqual([alone.gifts(), alone.rankings()], [[], {"ann": (), "bob": ()}])
        empty = Wishes(GIFTS, {})
        self.assertEqual([empty.gifts(), empty.guests(), empty.rankings()], [GIFTS, [], {}])

    def test_a_gift_and_a_guest_may_have_the_same_name(self):
        wishes = Wishes(["ann", "bob"], {"bob": ("bob", "ann"), "ann": ("bob", "ann")})
        self.assertEqual(wishes.ranking("ann"), ("bob", "ann"))
        self.assertIs(wishes.prefers("ann", "bob", "ann"), True)

    def test_sixteen_of_each(self):
        gifts, guests = MANY_GIFTS[:16], MANY_GUESTS[:16]
        wishes = Wishes(gifts, {guest: gifts[::-1] for guest in guests})
        self.assertEqual([wishes.gifts(), wishes.guests()], [gifts, guests])
        self.assertEqual(wishes.ranking(guests[15]), tuple(gifts[::-1]))

    def test_by_name(self):
        wishes = Wishes(rankings=RANKINGS, gifts=GIFTS)
        self.assertEqual(wishes, Wishes(GIFTS, RANKINGS))
        self.assertEqual(wishes.ranking(guest="ann"), RANKINGS["ann"])
        self.assertIs(wishes.prefers(other="lamp", one="vase", guest="bob"), True)
        self.assertIs(wishes.prefers("bob", "lamp", other="vase"), False)

    def test_methods_are_defined_in_the_class_itself(self):
        self.assertEqual(Wishes.__module__, "lastturn.wishes")
        for name in ("gifts", "guests", "ranking", "rankings", "prefers"):
            self.assertIn(name, vars(Wishes))


class CopiesTest(unittest.TestCase):
    def test_changed_arguments_change_no_answer(self):
        gifts = list(GIFTS)
        rankings = {guest: list(ranking) for guest, ranking in RANKINGS.items()}
        wishes = Wishes(gifts, rankings)
        gifts.reverse()
        gifts.append("more")
        rankings["ann"].reverse()
        rankings["bob"] = ["ball", "vase", "lamp"]
        rankings["dan"] = []
        del rankings["cy"]
        self.assertEqual(wishes.gifts(), GIFTS)
        self.assertEqual(list(wishes.rankings().items()), list(RANKINGS.items()))
        self.assertEqual(wishes.ranking("ann"), RANKINGS["ann"])
        self.assertEqual(wishes, Wishes(GIFTS, RANKINGS))

    def test_changed_results_change_no_answer(self):
        wishes = Wishes(GIFTS, RANKINGS)
        wishes.gifts().clear()
        wishes.guests().reverse()
        wishes.rankings().clear()
        wishes.rankings()["ann"] = ()
        self.assertEqual(wishes.gifts(), GIFTS)
        self.assertEqual(wishes.guests(), list(RANKINGS))
        self.assertEqual(wishes.rankings(), RANKINGS)
        self.assertIs(wishes.prefers("ann", "ball", "vase"), True)
        self.assertEqual(wishes, Wishes(GIFTS, RANKINGS))

    def test_every_returned_list_and_dict_is_new(self):
        wishes = Wishes(GIFTS, RANKINGS)
        for method in (wishes.gifts, wishes.guests, wishes.rankings):
            self.assertIsNot(method(), method())
            self.assertEqual(method(), method())

    def test_arguments_are_not_modified(self):
        gifts = list(GIFTS)
        rankings = {guest: list(ranking) for guest, ranking in RANKINGS.items()}
        kept = copy.deepcopy((gifts, list(rankings.items())))
        Wishes(gifts, rankings).rankings()
        self.assertEqual((gifts, list(rankings.items())), kept)


class EqualityTest(unittest.TestCase):
    def test_equal(self):
        one, other = Wishes(GIFTS, RANKINGS), Wishes(tuple(GIFTS), {name: list(RANKINGS[name]) for name in RANKINGS})
        self.assertTrue(one == other)
        self.assertFalse(one != other)
        self.assertTrue(Wishes([], {}) == Wishes((), {}))

    def test_different(self):
        wishes = Wishes(GIFTS, RANKINGS)
        others = [
            Wishes(["vase", "lamp", "ball"], RANKINGS),
            Wishes(GIFTS, dict(reversed(list(RANKINGS.items())))),
            Wishes(GIFTS, {**RANKINGS, "ann": ("lamp", "ball", "vase")}),
            Wishes(GIFTS, {**RANKINGS, "dan": RANKINGS["ann"]}),
            Wishes(GIFTS, {"bob": RANKINGS["bob"], "ann": RANKINGS["ann"]}),
            Wishes(GIFTS, {"bob": RANKINGS["bob"], "dan": RANKINGS["ann"], "cy": RANKINGS["cy"]}),
            Wishes(GIFTS, {}), Wishes([], {}), Wishes([], {name: () for name in RANKINGS}),
        ]
        for other in others:
            self.assertFalse(wishes == other)
            self.assertTrue(wishes != other)
            self.assertFalse(other == wishes)

    def test_gifts_matter_without_guests(self):
        self.assertFalse(Wishes(["lamp"], {}) == Wishes([], {}))
        self.assertFalse(Wishes(["lamp", "vase"], {}) == Wishes(["vase", "lamp"], {}))

    def test_other_kinds(self):
        wishes = Wishes(GIFTS, RANKINGS)
        for other in any_values() + [object(), GIFTS, RANKINGS, (GIFTS, RANKINGS), Likeness(wishes), Wishes]:
            self.assertFalse(wishes == other)
            self.assertTrue(wishes != other)
            self.assertFalse(other == wishes)


class ErrorsTest(unittest.TestCase):
    def test_gifts_of_every_kind(self):
        for value in any_values():
            if value in ((), [], ("ann",), ["ann"], ["ann", "bob", "cy", "dan"]):
                continue
            for rankings in ({}, {"ann": ()}, None, {1: 2}, {name: () for name in MANY_GUESTS}):
                with self.subTest(value=value):
                    raised(self, InvalidGifts, Wishes, value, rankings)
        for value in ("ab", "a", {"a": 1, "b": 2}, ["a", "b", "a"], ("a", "a"), ["a", ("b",)], [["a"]], ["a", "B"]):
            raised(self, InvalidGifts, Wishes, value, {})

    def test_too_many_gifts(self):
        for many in (17, 26):
            for rankings in ({}, None, 7, {1: 2}, {name: () for name in MANY_GUESTS}):
                self.assertEqual(raised(self, TooLarge, Wishes, MANY_GIFTS[:many], rankings).limit, 16)
        self.assertEqual(raised(self, TooLarge, Wishes, tuple(MANY_GIFTS), {}).limit, 16)
        raised(self, InvalidGifts, Wishes, MANY_GIFTS + ["ga"], {})
        raised(self, InvalidGifts, Wishes, MANY_GIFTS + [None], {})
        raised(self, InvalidGifts, Wishes, ["ga"] * 17, {})

    def test_rankings_of_every_kind(self):
        for value in any_values() + [[("ann", ("lamp",))], "ann", ("ann", "bob")]:
            if not isinstance(value, dict):
                with self.subTest(value=value):
                    self.assertIs(raised(self, InvalidRanking, Wishes, ["lamp"], value).guest, None)
                    self.assertIs(raised(self, InvalidRanking, Wishes, [], value).guest, None)

    def test_the_first_key_that_is_not_a_name(self):
        for key in (0, 1, -1, True, False, None, "", "Ann", "abcdefghi", "ann ", (), ("ann",), ("ann", (1, None))):
            with self.subTest(key=key):
                rankings = {"ann": ("lamp",), key: ("lamp",), "bob": None, "": None, 5: None}
                self.assertTrue(same_kind(raised(self, InvalidName, Wishes, ["lamp"], rankings).name, key))
                # The key comes before a wrong ranking of a guest ahead of it, and before too many guests.
                rankings = {name: "lamp" for name in MANY_GUESTS}
                rankings[key] = ("lamp",)
                rankings["X"] = 0
                self.assertTrue(same_kind(raised(self, InvalidName, Wishes, ["lamp"], rankings).name, key))

    def test_too_many_guests(self):
        for ranking in (("lamp",), ("vase",), None):
            rankings = {name: ranking for name in MANY_GUESTS[:17]}
            self.assertEqual(raised(self, TooLarge, Wishes, ["lamp"], rankings).limit, 16)
        self.assertEqual(len(Wishes(["lamp"], {name: ("lamp",) for name in MANY_GUESTS[:16]}).guests()), 16)

    def test_rankings_of_a_guest_of_every_kind(self):
        wrong = any_values() + ["lamp", "lampvase", ["lamp"], ("vase",), ["lamp", "vase", "ball"], ["lamp", "lamp"],
                                ("vase", "vase"), ["vase", "lamp", "vase"], ["lamp", "ball"], ["vase", ["lamp"]],
                                {"vase": 0, "lamp": 1}, {"lamp": "vase", "vase": "lamp"}, [("lamp", "vase")]]
        for value in wrong:
            with self.subTest(value=value):
                rankings = {"bob": ("vase", "lamp"), "cy": value, "ann": ["lamp", "vase"], "dan": None}
                self.assertEqual(raised(self, InvalidRanking, Wishes, ["lamp", "vase"], rankings).guest, "cy")

    def test_rankings_of_letters_are_no_strings(self):
        self.assertEqual(raised(self, InvalidRanking, Wishes, ["a", "b"], {"x": "ab"}).guest, "x")
        self.assertEqual(raised(self, InvalidRanking, Wishes, [], {"x": ""}).guest, "x")
        self.assertEqual(raised(self, InvalidRanking, Wishes, [], {"x": {}}).guest, "x")
        self.assertEqual(raised(self, InvalidRanking, Wishes, [], {"x": None}).guest, "x")
        self.assertEqual(raised(self, InvalidRanking, Wishes, [], {"x": ["a"]}).guest, "x")

    def test_the_first_guest_with_a_wrong_ranking(self):
        rankings = {"zoe": ("lamp",), "cy": 1, "ann": 2}
        self.assertEqual(raised(self, InvalidRanking, Wishes, ["lamp"], rankings).guest, "cy")

    def test_errors_by_name(self):
        raised(self, InvalidGifts, Wishes, gifts=0, rankings=0)
        self.assertIs(raised(self, InvalidRanking, Wishes, gifts=[], rankings=0).guest, None)

    def test_unknown_guests_of_every_kind(self):
        wishes = example()
        for value in any_values() + ["lamp", "vase", "cy", "an", "anna", ("ann", "bob"), ["ann", "bob"]]:
            with self.subTest(value=value):
                self.assertTrue(same_kind(raised(self, UnknownGuest, wishes.ranking, value).guest, value))
                self.assertTrue(same_kind(raised(self, UnknownGuest, wishes.ranking, guest=value).guest, value))
                for one, other in (("lamp", "vase"), (value, value), ([], {})):
                    error = raised(self, UnknownGuest, wishes.prefers, value, one, other)
                    self.assertTrue(same_kind(error.guest, value))
        self.assertEqual(wishes, example())

    def test_unknown_gifts_of_every_kind(self):
        wishes = example()
        for value in any_values() + ["ann", "bob", "lam", "lampvase", ("vase", "lamp"), ["lamp"]]:
            with self.subTest(value=value):
                for one, other in ((value, "lamp"), ("vase", value), (value, value), (value, []), (value, "none")):
                    error = raised(self, UnknownGift, wishes.prefers, "ann", one, other)
                    self.assertTrue(same_kind(error.gift, value))
        self.assertEqual(raised(self, UnknownGift, wishes.prefers, "ann", "x", "y").gift, "x")
        self.assertEqual(raised(self, UnknownGift, wishes.prefers, guest="ann", one="lamp", other="y").gift, "y")

    def test_nobody_is_known_without_guests(self):
        self.assertEqual(raised(self, UnknownGuest, Wishes(["lamp"], {}).ranking, "ann").guest, "ann")
        self.assertEqual(raised(self, UnknownGift, Wishes([], {"ann": ()}).prefers, "ann", "ann", "x").gift, "ann")
