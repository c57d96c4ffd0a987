"""Points 4, 12, 31, 32 and 33: improvements, efficient holdings and their least rows."""

import copy
import itertools
import unittest

from helpers import MANY_GIFTS, MANY_GUESTS, any_values, raised, same_kind, seeded
from holdings import all_holdings, all_improvements, all_rows, carried_out, check_improves, check_wrong_holdings, circle
from holdings import crowd, jumbled, place, random_holding, rows_of, small_wishes, some_wishes, three, turned_over
from lastturn import efficient
from lastturn.efficient import efficient_holdings, improvement, is_efficient, is_improvement, row_of
from lastturn.errors import NotEfficient, TooLarge
from lastturn.parties import choose
from lastturn.wishes import Wishes

LARGE = [(16, 16), (16, 10), (10, 16), (0, 16), (1, 16), (16, 1), (16, 0)]
RINGED = {"ann": "hat", "bob": "map", "cal": "cup"}


def some_cases():
    """Return Wishes with holdings: all of small parties, and some that are larger."""
    rng = seeded(41)
    small = [(wishes, holding) for wishes in small_wishes() + [jumbled()] for holding in all_holdings(wishes)]
    return small + [(wishes, random_holding(rng, wishes)) for wishes in some_wishes(42, *LARGE * 5)]


class ImprovementTest(unittest.TestCase):
    def test_example_of_the_document(self):
        self.assertEqual(improvement(three(), {"ann": "hat", "bob": "cup", "cal": None}), ("table", "cal", "map"))

    def test_by_hand(self):
        self.assertIn(improvement(three(), RINGED), [("ring", ("ann", "cal")), ("ring", ("cal", "ann"))])
        # Nobody holds anything: everybody prefers any gift to none.
        self.assertEqual(improvement(Wishes(["cup"], {"ann": ["cup"]}), {"ann": None}), ("table", "ann", "cup"))
        self.assertIs(improvement(Wishes(["cup"], {"ann": ["cup"]}), {"ann": "cup"}), None)
        # A guest without a gift envies, but nobody takes part in a ring with nothing.
        wishes = Wishes(["cup"], {"ann": ["cup"], "bob": ["cup"]})
        self.assertIs(improvement(wishes, {"ann": None, "bob": "cup"}), None)

    def test_no_guests_and_no_gifts(self):
        self.assertIs(improvement(Wishes([], {}), {}), None)
        self.assertIs(improvement(Wishes(["cup"], {}), {}), None)
        self.assertIs(improvement(Wishes([], {"ann": (), "bob": ()}), {"ann": None, "bob": None}), None)

    def test_efficient_or_improved(self):
        for wishes, holding in some_cases():
            step = improvement(wishes, holding)
            self.assertTrue(same_kind(improvement(wishes, turned_over(holding)), step))
            self.assertIs(is_efficient(wishes, holding), step is None)
            if step is None:
                self.assertEqual(choose(wishes, row_of(wishes, holding)), holding)
            else:
                check_improves(self, wishes, holding, step)
                self.assertIs(is_improvement(wishes, holding, step), True)

    def test_a_row_if_and_only_if_no_improvement(self):
        for wishes in small_wishes() + [jumbled()]:
            reached = [holding for _, holding in all_rows(wishes)]
            for holding in all_holdings(wishes):
                self.assertIs(improvement(wishes, holding) is None, holding in reached)

    def test_rings_of_all_lengths(self):
        for count in (2, 3, 4, 6, 7, 9, 11, 12, 14, 16):
            wishes, holding = circle(count)
            step = improvement(wishes, holding)
            self.assertEqual((step[0], len(step[1])), ("ring", count))
            check_improves(self, wishes, holding, step)

    def test_a_ring_behind_other_guests(self):
        # The guests before the ring wait for it, and the ones behind it envy nobody.
        wishes = Wishes(["cup", "hat", "map", "pen"], {
            "dan": ("pen", "hat", "map", "cup"), "cal": ("pen", "hat", "map", "cup"), "bob": ("hat", "pen", "map", "cup"),
            "ann": ("map", "cup", "hat", "pen")})
        holding = {"dan": "cup", "cal": "hat", "bob": "pen", "ann": "map"}
        self.assertIn(improvement(wishes, holding), [("ring", ("cal", "bob")), ("ring", ("bob", "cal"))])

    def test_by_name_and_unmodified(self):
        wishes, holding = three(), dict(RINGED)
        self.assertEqual(improvement(holding=holding, wishes=wishes), improvement(wishes, holding))
        self.assertEqual((wishes, holding), (three(), RINGED))

    def test_values_that_are_no_holdings(self):
        for wishes in (three(), jumbled(), crowd(16)):
            check_wrong_holdings(self, improvement, wishes)


class IsEfficientTest(unittest.TestCase):
    def test_by_hand(self):
        self.assertIs(is_efficient(three(), {"ann": "hat", "bob": "cup", "cal": "map"}), True)
        self.assertIs(is_efficient(three(), {"ann": "hat", "bob": "cup", "cal": None}), False)
        self.assertIs(is_efficient(three(), RINGED), False)
        self.assertIs(is_efficient(Wishes([], {}), {}), True)

    def test_by_name(self):
        self.assertIs(is_efficient(holding=dict(RINGED), wishes=three()), False)

    def test_values_that_are_no_holdings(self):
        for wishes in (three(), jumbled(), crowd(16)):
            check_wrong_holdings(self, is_efficient, wishes)


def candidates(wishes):
    """Return values that look like improvements, most of which are none."""
    guests, gifts = wishes.guests(), wishes.gifts()
    tables = [("table", guest, gift) for guest in guests + gifts[:1] + ["zed", None] for gift in gifts + guests[:1] + [None]]
    rings = [("ring", ring) for many in range(len(guests) + 1) for ring in itertools.permutations(guests, many)]
    return tables + rings


def wrong_forms(step):
    """Return values that are no improvements, though they are made of one."""
    wrong = [list(step), step + (None,), (step,), [step], step[:-1], step[1:], step + step, {step[0]: step[1:]},
             {step: step}, (step[0].upper(),) + step[1:], (True,) + step[1:], (None,) + step[1:], ([step[0]],) + step[1:],
             ((step[0],),) + step[1:], ("",) + step[1:], (step[0] + " ",) + step[1:], ({},) + step[1:]]
    if step[0] == "ring":
        ring = step[1]
        wrong += [("ring", list(ring)), ("ring",) + ring, ("ring", ring + ring), ("ring", ring + ring[:1]),
                  ("ring", ring[:1]), ("ring", ring[:1] * 2), ("ring", ()), ("table", ring), ("ring", ring, None),
                  ("ring", (list(ring),)), ("ring", tuple([name] for name in ring)), ("ring", ring + ("zed",)),
                  ("ring", ("zed",) + ring), ("ring", ring + (None,)), ("ring", dict.fromkeys(ring)), ("ring", ring[0]),
                  ("ring", "".join(ring)), ("ring", (ring,)), ("table",) + ring[:2]]
    else:
        guest, gift = step[1:]
        wrong += [("ring", guest, gift), ("table", gift, guest), ("table", [guest], gift), ("table", (guest,), gift),
                  ("table", guest, [gift]), ("table", guest, (gift,)), ("table", guest, {gift: None}), ("table", {}, gift),
                  ("table", (guest, gift)), ("table", guest, True), ("table", None, gift), ("table", guest, None),
                  ("ring", (guest, guest)), ("table", guest + " ", gift)]
    return wrong


class IsImprovementTest(unittest.TestCase):
    def test_example_of_the_document(self):
        self.assertIs(is_improvement(three(), RINGED, ("ring", ("cal", "ann"))), True)

    def test_all_that_look_like_improvements(self):
        for wishes in small_wishes()[::4] + [jumbled(), three()]:
            for holding in all_holdings(wishes):
                right = all_improvements(wishes, holding)
                for value in candidates(wishes):
                    self.assertIs(is_improvement(wishes, holding, value), value in right)

    def test_four_and_five_guests(self):
        rng = seeded(43)
        for wishes in some_wishes(44, (4, 4), (5, 4), (3, 4), (5, 5), (4, 5), (6, 5)):
            for _ in range(6):
                holding = random_holding(rng, wishes)
                right = all_improvements(wishes, holding)
                for value in candidates(wishes):
                    self.assertIs(is_improvement(wishes, turned_over(holding), value), value in right)

    def test_long_rings(self):
        for count in (12, 16):
            wishes, holding = circle(count)
            ring = improvement(wishes, holding)[1]
            for at in range(count):
                turned = ring[at:] + ring[:at]
                self.assertIs(is_improvement(wishes, holding, ("ring", turned)), True)
                self.assertIs(is_improvement(wishes, holding, ("ring", turned[::-1])), False)
                self.assertIs(is_improvement(wishes, holding, ("ring", turned[1:])), False)

    def test_values_of_every_kind(self):
        for value in any_values():
            for holding in (RINGED, dict.fromkeys(RINGED)):
                for whole in (value, (value,), ("table", value), ("ring", value), ("ring", (value, value)), (value, value),
                              ("table", value, "cup"), ("table", "ann", value), ("ring", ("ann", value)),
                              ("ring", (value, "cal")), (value, "ann", "cup"), (value, ("ann", "cal"))):
                    before = copy.deepcopy(whole)
                    self.assertIs(is_improvement(three(), holding, whole), False)
                    self.assertTrue(same_kind(whole, before))

    def test_wrong_forms_of_improvements(self):
        for wishes, holding in ((three(), RINGED), (three(), dict.fromkeys(RINGED)), circle(6)):
            for step in all_improvements(wishes, holding):
                self.assertIs(is_improvement(wishes, holding, step), True)
                for value in wrong_forms(step):
                    with self.subTest(value=value):
                        self.assertIs(is_improvement(wishes, holding, value), False)

    def test_without_guests(self):
        for value in any_values() + [("ring", ()), ("table", None, None)]:
            self.assertIs(is_improvement(Wishes(["cup"], {}), {}, value), False)

    def test_by_name_and_unmodified(self):
        wishes, holding, value = three(), dict(RINGED), ("ring", ("ann", "cal"))
        self.assertIs(is_improvement(value=value, holding=holding, wishes=wishes), True)
        self.assertEqual((wishes, holding, value), (three(), RINGED, ("ring", ("ann", "cal"))))

    def test_values_that_are_no_holdings(self):
        check_wrong_holdings(self, is_improvement, three(), ("ring", ("cal", "ann")), value=("ring", ("cal", "ann")))
        check_wrong_holdings(self, is_improvement, crowd(16), None, value=[])


class RowOfTest(unittest.TestCase):
    def test_example_of_the_document(self):
        self.assertEqual(row_of(three(), {"ann": "hat", "bob": "cup", "cal": "map"}), ("bob", "ann", "cal"))

    def test_by_hand(self):
        self.assertEqual(row_of(Wishes([], {}), {}), ())
        wishes = Wishes(["cup"], {"zoe": ["cup"], "bob": ["cup"], "ann": ["cup"]})
        self.assertEqual(row_of(wishes, {"ann": "cup", "bob": None, "zoe": None}), ("ann", "zoe", "bob"))
        self.assertEqual(row_of(wishes, {"ann": None, "bob": "cup", "zoe": None}), ("bob", "zoe", "ann"))

    def test_the_least_of_all_rows(self):
        larger = some_wishes(45, (4, 4), (3, 4), (5, 4), (4, 5), (5, 5), (4, 4), (5, 5))
        for wishes in small_wishes() + [jumbled()]:
            for holding in all_holdings(wishes):
                rows = rows_of(wishes, holding)
                if rows:
                    self.assertTrue(same_kind(row_of(wishes, turned_over(holding)), rows[0]))
                else:
                    raised(self, NotEfficient, row_of, wishes, holding)
        for wishes in larger:
            for _, holding in all_rows(wishes)[::7]:
                self.assertTrue(same_kind(row_of(wishes, holding), rows_of(wishes, holding)[0]))

    def test_sixteen_of_each(self):
        rng = seeded(46)
        for wishes in some_wishes(47, *LARGE * 3):
            row = tuple(rng.sample(wishes.guests(), len(wishes.guests())))
            holding = choose(wishes, row)
            found = row_of(wishes, holding)
            self.assertEqual(choose(wishes, found), holding)
            numbers = [wishes.guests().index(guest) for guest in found]
            self.assertLessEqual(numbers, [wishes.guests().index(guest) for guest in row])
        wishes = crowd(16, 16)
        holding = dict(zip(MANY_GUESTS[:16], MANY_GIFTS[15::-1]))
        self.assertEqual(row_of(wishes, holding), tuple(MANY_GUESTS[15::-1]))

    def test_by_name_and_unmodified(self):
        wishes, holding = three(), {"cal": "map", "bob": "cup", "ann": "hat"}
        self.assertEqual(row_of(holding=holding, wishes=wishes), ("bob", "ann", "cal"))
        self.assertEqual((wishes, list(holding)), (three(), ["cal", "bob", "ann"]))

    def test_errors(self):
        for wishes in (three(), jumbled(), crowd(16)):
            check_wrong_holdings(self, row_of, wishes)
        raised(self, NotEfficient, row_of, three(), RINGED)
        raised(self, NotEfficient, row_of, wishes=three(), holding=dict.fromkeys(RINGED))
        raised(self, NotEfficient, row_of, *circle(16))


class EfficientHoldingsTest(unittest.TestCase):
    def test_example_of_the_document(self):
        self.assertEqual([holding["ann"] for holding in efficient_holdings(three())], ["cup", "hat", "map"])

    def test_by_hand(self):
        wishes = Wishes(["vase", "lamp"], {guest: ("lamp", "vase") for guest in ("zoe", "bob", "ann")})
        self.assertEqual([list(holding.items()) for holding in efficient_holdings(wishes)], [
            [("zoe", "vase"), ("bob", "lamp"), ("ann", None)], [("zoe", "vase"), ("bob", None), ("ann", "lamp")],
            [("zoe", "lamp"), ("bob", "vase"), ("ann", None)], [("zoe", "lamp"), ("bob", None), ("ann", "vase")],
            [("zoe", None), ("bob", "vase"), ("ann", "lamp")], [("zoe", None), ("bob", "lamp"), ("ann", "vase")]])
        self.assertEqual(efficient_holdings(Wishes([], {})), [{}])
        self.assertEqual(efficient_holdings(Wishes(["cup"], {})), [{}])
        self.assertEqual(efficient_holdings(Wishes([], {"ann": (), "bob": ()})), [{"ann": None, "bob": None}])

    def test_all_results_of_rows(self):
        larger = some_wishes(48, (4, 4), (5, 4), (3, 5), (5, 5), (16, 5), (0, 6), (2, 6), (6, 6), (16, 6))
        for wishes in small_wishes() + [jumbled()] + larger:
            gifts, results = wishes.gifts(), [holding for _, holding in all_rows(wishes)]
            numbers = sorted({tuple(place(gifts, gift) for gift in holding.values()) for holding in results})
            expected = [dict(zip(wishes.guests(), [(gifts + [None])[at] for at in chosen])) for chosen in numbers]
            self.assertTrue(same_kind(efficient_holdings(wishes), expected))

    def test_all_without_an_improvement(self):
        for wishes in small_wishes() + [jumbled()]:
            expected = [holding for holding in all_holdings(wishes) if not all_improvements(wishes, holding)]
            self.assertTrue(same_kind(efficient_holdings(wishes), expected))

    def test_six_guests_with_the_same_ranking(self):
        found = efficient_holdings(crowd(6, 16))
        self.assertEqual(len(found), 720)
        self.assertEqual(list(found[0].items()), list(zip(MANY_GUESTS[:6], MANY_GIFTS[:6])))
        self.assertEqual(list(found[-1].values()), MANY_GIFTS[5::-1])

    def test_new_results_and_by_name(self):
        wishes = three()
        found = efficient_holdings(wishes=wishes)
        found[0].clear()
        found.clear()
        self.assertEqual(len(efficient_holdings(wishes)), 3)
        self.assertEqual(wishes, three())

    def test_too_many_guests(self):
        for wishes in (crowd(7), crowd(16), crowd(7, 0)):
            self.assertEqual(raised(self, TooLarge, efficient_holdings, wishes).limit, 6)
            self.assertEqual(raised(self, TooLarge, efficient_holdings, wishes=wishes).limit, 6)


class PlaceTest(unittest.TestCase):
    def test_defined_where_the_interface_lists_them(self):
        for function in (is_efficient, improvement, is_improvement, row_of, efficient_holdings):
            self.assertEqual(function.__module__, efficient.__name__)

    def test_carrying_out_by_hand(self):
        self.assertEqual(carried_out(RINGED, ("ring", ("cal", "ann"))), {"ann": "cup", "bob": "map", "cal": "hat"})
