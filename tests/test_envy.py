"""Points 30 and 33: who envies whom, which rows explain a holding, and who is better off in another one."""

import itertools
import unittest

from helpers import any_values, raised, same_kind, seeded
from holdings import all_holdings, all_rows, check_wrong_holdings, crowd, envies, jumbled, prefers, random_holding
from holdings import small_wishes, some_wishes, three, turned_over, wrong_holdings
from lastturn import envy
from lastturn.envy import better_off, envy_pairs, is_row_of
from lastturn.errors import InvalidHolding, InvalidRow
from lastturn.wishes import Wishes

HOLDING = {"ann": "cup", "bob": "map", "cal": "hat"}
LARGE = [(16, 16), (16, 10), (10, 16), (0, 16), (1, 16), (16, 1), (16, 0)]


class EnvyPairsTest(unittest.TestCase):
    def test_example_of_the_document(self):
        self.assertEqual(envy_pairs(three(), HOLDING), [("bob", "ann")])

    def test_by_hand(self):
        holding = {"zoe": "vase", "ann": None, "moe": "kite"}
        self.assertEqual(envy_pairs(jumbled(), holding), [("zoe", "moe"), ("ann", "zoe"), ("ann", "moe")])
        self.assertEqual(envy_pairs(jumbled(), {"zoe": "lamp", "ann": "vase", "moe": "kite"}),
                         [("zoe", "ann"), ("zoe", "moe"), ("ann", "zoe"), ("ann", "moe"), ("moe", "zoe")])
        # A gift on the table makes nobody envy, and nobody envies a guest without a gift.
        self.assertEqual(envy_pairs(three(), dict.fromkeys(["ann", "bob", "cal"])), [])
        self.assertEqual(envy_pairs(three(), {"ann": None, "bob": "map", "cal": None}), [("ann", "bob"), ("cal", "bob")])

    def test_no_guests_and_no_gifts(self):
        self.assertEqual(envy_pairs(Wishes([], {}), {}), [])
        self.assertEqual(envy_pairs(Wishes(["cup"], {}), {}), [])
        self.assertEqual(envy_pairs(Wishes([], {"ann": (), "bob": ()}), {"ann": None, "bob": None}), [])

    def test_all_holdings_of_small_parties_and_large_ones(self):
        rng = seeded(31)
        cases = [(wishes, holding) for wishes in small_wishes() for holding in all_holdings(wishes)]
        cases += [(wishes, random_holding(rng, wishes)) for wishes in some_wishes(32, *LARGE)]
        for wishes, holding in cases:
            expected = [pair for pair in itertools.product(wishes.guests(), repeat=2) if envies(wishes, holding, *pair)]
            self.assertTrue(same_kind(envy_pairs(wishes, holding), expected))
            self.assertEqual(envy_pairs(wishes, turned_over(holding)), expected)

    def test_new_lists_and_by_name(self):
        wishes, holding = three(), dict(HOLDING)
        envy_pairs(wishes, holding).clear()
        self.assertEqual(envy_pairs(holding=holding, wishes=wishes), [("bob", "ann")])
        self.assertEqual((wishes, list(holding.items())), (three(), list(HOLDING.items())))

    def test_values_that_are_no_holdings(self):
        for wishes in (three(), jumbled(), crowd(16)):
            check_wrong_holdings(self, envy_pairs, wishes)


class IsRowOfTest(unittest.TestCase):
    def test_by_hand(self):
        self.assertIs(is_row_of(three(), HOLDING, ("ann", "bob", "cal")), True)
        self.assertIs(is_row_of(three(), HOLDING, ("cal", "ann", "bob")), True)
        self.assertIs(is_row_of(three(), HOLDING, ("bob", "ann", "cal")), False)
        self.assertIs(is_row_of(Wishes([], {}), {}, ()), True)
        self.assertIs(is_row_of(Wishes(["cup"], {"ann": ["cup"]}), {"ann": None}, ["ann"]), False)
        self.assertIs(is_row_of(Wishes([], {"ann": ()}), {"ann": None}, ["ann"]), True)

    def test_all_holdings_and_rows_of_small_parties(self):
        for wishes in small_wishes():
            rows = all_rows(wishes)
            for holding in all_holdings(wishes):
                for row, reached in rows:
                    self.assertIs(is_row_of(wishes, holding, row), reached == holding)
                    self.assertIs(is_row_of(wishes, turned_over(holding), list(row)), reached == holding)

    def test_the_rows_with_every_envied_guest_ahead(self):
        # Point 33: these are exactly the rows, if the holding is efficient.
        for wishes in some_wishes(33, (4, 4), (3, 4), (5, 4), (4, 4)):
            rows = all_rows(wishes)
            for _, holding in rows:
                for row, _ in rows:
                    ahead = all(row.index(other) < row.index(guest) for guest, other in envy_pairs(wishes, holding))
                    self.assertIs(is_row_of(wishes, holding, row), ahead)

    def test_sixteen_of_each(self):
        for wishes in some_wishes(34, (16, 16), (16, 12), (12, 16)):
            row = wishes.guests()[::-1]
            holding = {}
            for guest in row:
                left = [gift for gift in wishes.ranking(guest) if gift not in holding.values()]
                holding[guest] = left[0] if left else None
            self.assertIs(is_row_of(wishes, holding, row), True)
            held = list(holding.values())
            swapped = dict(zip(row, held[1:] + held[:1]))
            self.assertIs(is_row_of(wishes, swapped, row), False)

    def test_by_name_and_unmodified(self):
        wishes, holding, row = three(), dict(HOLDING), ["ann", "bob", "cal"]
        self.assertIs(is_row_of(row=row, holding=holding, wishes=wishes), True)
        self.assertEqual((wishes, holding, row), (three(), HOLDING, ["ann", "bob", "cal"]))

    def test_the_errors_and_their_order(self):
        check_wrong_holdings(self, is_row_of, three(), ("ann", "bob", "cal"), row=("ann", "bob", "cal"))
        check_wrong_holdings(self, is_row_of, three(), ("ann", "bob"), row=None)
        for row in any_values() + [("ann", "bob"), ["ann", "bob", "bob"], ("ann", "bob", ["cal"]), "annbobcal", HOLDING]:
            with self.subTest(row=row):
                raised(self, InvalidRow, is_row_of, three(), HOLDING, row)
                raised(self, InvalidRow, is_row_of, wishes=three(), holding=dict.fromkeys(HOLDING), row=row)


class BetterOffTest(unittest.TestCase):
    def test_example_of_the_document(self):
        other = {"ann": "hat", "bob": "cup", "cal": "map"}
        self.assertEqual(better_off(three(), HOLDING, other), ["bob"])
        self.assertEqual(better_off(three(), other, HOLDING), ["ann", "cal"])

    def test_by_hand(self):
        nothing = dict.fromkeys(["zoe", "ann", "moe"])
        worst = {"moe": "vase", "ann": "ball", "zoe": "lamp"}
        self.assertEqual(better_off(jumbled(), nothing, worst), ["zoe", "ann", "moe"])
        self.assertEqual(better_off(jumbled(), worst, nothing), [])
        self.assertEqual(better_off(jumbled(), nothing, nothing), [])
        self.assertEqual(better_off(Wishes([], {}), {}, {}), [])
        self.assertEqual(better_off(Wishes([], {"ann": ()}), {"ann": None}, {"ann": None}), [])

    def test_all_pairs_of_holdings_of_small_parties_and_large_ones(self):
        rng = seeded(35)
        cases = [(wishes, *pair) for wishes in small_wishes()[::5] + [jumbled()]
                 for pair in itertools.product(all_holdings(wishes), repeat=2)]
        cases += [(wishes, random_holding(rng, wishes), random_holding(rng, wishes)) for wishes in some_wishes(36, *LARGE)]
        for wishes, holding, other in cases:
            expected = [guest for guest in wishes.guests() if prefers(wishes, guest, other[guest], holding[guest])]
            self.assertTrue(same_kind(better_off(wishes, holding, other), expected))
            self.assertEqual(better_off(wishes, turned_over(holding), turned_over(other)), expected)

    def test_new_lists_and_by_name(self):
        wishes, holding, other = three(), dict(HOLDING), {"ann": "hat", "bob": "cup", "cal": "map"}
        better_off(wishes, holding, other).clear()
        self.assertEqual(better_off(other=other, holding=holding, wishes=wishes), ["bob"])
        self.assertEqual((wishes, holding, other), (three(), HOLDING, {"ann": "hat", "bob": "cup", "cal": "map"}))

    def test_the_errors_and_their_order(self):
        check_wrong_holdings(self, better_off, three(), HOLDING, other=HOLDING)
        check_wrong_holdings(self, better_off, three(), {"ann": "cup", "bob": "cup", "cal": 7}, other=[])
        for value, guest in wrong_holdings(["ann", "bob", "cal"], ["cup", "hat", "map"]):
            with self.subTest(value=value):
                self.assertEqual(raised(self, InvalidHolding, better_off, three(), HOLDING, value).guest, guest)
                error = raised(self, InvalidHolding, better_off, wishes=three(), holding=HOLDING, other=value)
                self.assertEqual(error.guest, guest)


class PlaceTest(unittest.TestCase):
    def test_defined_where_the_interface_lists_them(self):
        for function in (envy_pairs, is_row_of, better_off):
            self.assertEqual(function.__module__, envy.__name__)
