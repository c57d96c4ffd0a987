"""Points 4, 31 and 37: improving a holding until it is efficient."""

import copy
import unittest

from helpers import MANY_GIFTS, MANY_GUESTS, any_values, raised, same_kind, seeded
from holdings import all_holdings, all_improvements, carried_out, check_improves, check_wrong_holdings, circle, crowd
from holdings import jumbled, prefers, random_holding, rows_of, small_wishes, some_wishes, three, turned_over
from lastturn import improving
from lastturn.efficient import is_efficient
from lastturn.errors import InvalidHolding
from lastturn.improving import improve, is_improved
from lastturn.wishes import Wishes

LARGE = [(16, 16), (16, 10), (10, 16), (0, 16), (1, 16), (16, 1), (16, 0), (12, 12)]
START = {"ann": "hat", "bob": "cup", "cal": None}


def some_cases():
    """Return Wishes with holdings: all of small parties, and some that are larger."""
    rng = seeded(95)
    small = [(wishes, holding) for wishes in small_wishes()[::2] + [jumbled()] for holding in all_holdings(wishes)]
    large = [(wishes, random_holding(rng, wishes)) for wishes in some_wishes(96, *LARGE * 3)]
    return small + large + [circle(16), circle(7), (crowd(16, 16), dict.fromkeys(MANY_GUESTS[:16]))]


def all_ways(wishes, holding):
    """Return all lists of improvements, one after the other, that end in an efficient holding, with this holding."""
    steps = all_improvements(wishes, holding)
    if not steps:
        return [([], holding)]
    return [([step] + later, result) for step in steps
            for later, result in all_ways(wishes, carried_out(holding, step))]


class ImproveTest(unittest.TestCase):
    def test_example_of_the_document(self):
        self.assertEqual(improve(three(), START),
                         ([("table", "cal", "map")], {"ann": "hat", "bob": "cup", "cal": "map"}))

    def test_by_hand(self):
        self.assertTrue(same_kind(improve(Wishes([], {}), {}), ([], {})))
        self.assertTrue(same_kind(improve(Wishes(["cup"], {}), {}), ([], {})))
        self.assertTrue(same_kind(improve(Wishes([], {"ann": ()}), {"ann": None}), ([], {"ann": None})))
        self.assertEqual(improve(Wishes(["cup"], {"ann": ["cup"]}), {"ann": None}), ([("table", "ann", "cup")], {"ann": "cup"}))
        steps, result = improve(three(), {"ann": "hat", "bob": "map", "cal": "cup"})
        self.assertEqual(result, {"ann": "cup", "bob": "map", "cal": "hat"})
        self.assertIn(steps, [[("ring", ("ann", "cal"))], [("ring", ("cal", "ann"))]])

    def test_one_improvement_after_another(self):
        for wishes, holding in some_cases():
            for given in (holding, turned_over(holding)):
                found = improve(wishes, given)
                self.assertEqual((type(found), type(found[0]), type(found[1])), (tuple, list, dict))
                now = holding
                for step in found[0]:
                    now = check_improves(self, wishes, now, step)
                self.assertEqual(now, found[1])
                self.assertEqual(list(found[1]), wishes.guests())
                self.assertIs(is_efficient(wishes, found[1]), True)
                for guest in wishes.guests():
                    self.assertFalse(prefers(wishes, guest, holding[guest], found[1][guest]))
                self.assertIs(is_improved(wishes, given, found), True)

    def test_the_result_has_a_row(self):
        for wishes in small_wishes()[::5]:
            for holding in all_holdings(wishes):
                self.assertTrue(rows_of(wishes, improve(wishes, holding)[1]))

    def test_efficient_holdings_stay(self):
        for wishes, holding in some_cases():
            if is_efficient(wishes, holding):
                given = turned_over(holding)
                steps, result = improve(wishes, given)
                self.assertEqual((steps, list(result.items())), ([], list(holding.items())))
                steps.append(None)
                result.clear()
                self.assertEqual(given, holding)
                self.assertEqual(improve(wishes, given), ([], holding))

    def test_equal_calls_by_name_and_unmodified(self):
        wishes, holding = three(), dict(START)
        found = improve(holding=holding, wishes=wishes)
        found[0].clear()
        found[1].clear()
        self.assertEqual(improve(wishes, holding), ([("table", "cal", "map")], {"ann": "hat", "bob": "cup", "cal": "map"}))
        self.assertEqual((wishes, holding), (three(), START))
        for wishes, holding in some_cases()[-20:]:
            kept = list(holding.items())
            self.assertTrue(same_kind(improve(wishes, holding), improve(wishes, holding)))
            self.assertEqual(list(holding.items()), kept)

    def test_values_that_are_no_holdings(self):
        for wishes in (three(), jumbled(), crowd(16)):
            check_wrong_holdings(self, improve, wishes)


class IsImprovedTest(unittest.TestCase):
    def test_all_ways(self):
        for wishes in small_wishes()[::11] + [three()]:
            holdings = all_holdings(wishes)
            for holding in holdings:
                for steps, result in all_ways(wishes, holding)[:20]:
                    self.assertIs(is_improved(wishes, holding, (steps, result)), True)
                    self.assertIs(is_improved(wishes, turned_over(holding), (steps, turned_over(result))), True)
                    for other in holdings:
                        if other != result:
                            self.assertIs(is_improved(wishes, holding, (steps, other)), False)

    def test_steps_left_out_or_added(self):
        for wishes, holding in some_cases()[::5] + some_cases()[-20:]:
            steps, result = improve(wishes, holding)
            if steps:
                after_first = carried_out(holding, steps[0])
                before_last = holding
                for step in steps[:-1]:
                    before_last = carried_out(before_last, step)
                for value in (([], holding), ([], result), (steps[:-1], result), (steps[:-1], before_last),
                              (steps + steps[-1:], result), (steps + [None], result), ([None] + steps, result),
                              (steps, before_last)):
                    self.assertIs(is_improved(wishes, holding, value), False)
                self.assertIs(is_improved(wishes, after_first, (steps[1:], result)), True)

    def test_an_improvement_is_left(self):
        # Every step is an improvement and leads to what is given, but somebody can still improve.
        holding = {"ann": None, "bob": None, "cal": None}
        step = ("table", "ann", "map")
        self.assertIs(is_improved(three(), holding, ([step], {**holding, "ann": "map"})), False)
        self.assertIs(is_improved(three(), holding, ([], holding)), False)
        wishes, holding = circle(6)
        self.assertIs(is_improved(wishes, holding, ([], holding)), False)

    def test_wrong_forms(self):
        steps, result = [("table", "cal", "map")], {"ann": "hat", "bob": "cup", "cal": "map"}
        self.assertIs(is_improved(three(), START, (steps, result)), True)
        for value in ([steps, result], (tuple(steps), result), (steps, list(result.items())), (steps, result, None),
                      (steps,), (result, steps), (steps, steps), steps, result, ((steps, result),), ([steps], result),
                      ([["table", "cal", "map"]], result), (steps[0], result), ({0: steps[0]}, result), (steps, None),
                      (steps, {**result, "dan": None}), (steps, {"cal": "map"}), (steps, {**result, "ann": ["hat"]}),
                      (steps, {**result, "ann": None}), (steps, tuple(result.values())), (steps, list(result)),
                      ("table", result), ("", result), (None, result), (True, result), (steps, True), {"steps": steps},
                      ([("table", "cal", ["map"])], result), ([("table", ["cal"], "map")], result),
                      ([("ring", ("cal", "ann"))], {"ann": None, "bob": "cup", "cal": "hat"})):
            before = copy.deepcopy(value)
            with self.subTest(value=value):
                self.assertIs(is_improved(three(), START, value), False)
                self.assertTrue(same_kind(value, before))
        ringed, better = {"ann": "hat", "bob": "map", "cal": "cup"}, {"ann": "cup", "bob": "map", "cal": "hat"}
        self.assertIs(is_improved(three(), ringed, ([("ring", ("ann", "cal"))], better)), True)
        self.assertIs(is_improved(three(), ringed, ([("ring", ["ann", "cal"])], better)), False)
        self.assertIs(is_improved(three(), ringed, ([["ring", ("ann", "cal")]], better)), False)
        self.assertIs(is_improved(three(), ringed, ((("ring", ("ann", "cal")),), better)), False)

    def test_values_of_every_kind(self):
        result = {"ann": "hat", "bob": "cup", "cal": "map"}
        for value in any_values():
            before = copy.deepcopy(value)
            with self.subTest(value=value):
                for whole in (value, (value,), (value, value), ([value], result), ([], value), (value, result), [value, result],
                              ([("table", "cal", "map"), value], result), ([("table", "cal", "map")], value),
                              ([("ring", value)], result), ([("table", value, "map")], result),
                              ([("table", "cal", value)], result)):
                    self.assertIs(is_improved(three(), START, whole), False)
                self.assertIs(is_improved(three(), result, (value, result)), same_kind(value, []))
                self.assertIs(is_improved(Wishes([], {}), {}, ([], value)), same_kind(value, {}))
                self.assertTrue(same_kind(value, before))

    def test_by_name_and_unmodified(self):
        holding, value = dict(START), ([("table", "cal", "map")], {"cal": "map", "bob": "cup", "ann": "hat"})
        kept = copy.deepcopy(value)
        self.assertIs(is_improved(value=value, holding=holding, wishes=three()), True)
        self.assertEqual((holding, value), (START, kept))

    def test_values_that_are_no_holdings(self):
        check_wrong_holdings(self, is_improved, three(), ([], {}), value=None)
        check_wrong_holdings(self, is_improved, crowd(16), improve(crowd(16), dict.fromkeys(MANY_GUESTS[:16])), value=())
        self.assertEqual(raised(self, InvalidHolding, is_improved, crowd(2), {"pa": "ga", "pb": "ga"}, []).guest, "pb")

    def test_long_ways(self):
        wishes = crowd(16, 16)
        gifts = MANY_GIFTS[:16]
        # The first guest climbs from the worst gift to the best one, step by step.
        holding = {**dict.fromkeys(MANY_GUESTS[:16]), "pa": gifts[15]}
        steps = [("table", "pa", gift) for gift in gifts[14::-1]]
        steps += [("table", guest, gift) for guest, gift in zip(MANY_GUESTS[1:16], gifts[1:])]
        result = dict(zip(MANY_GUESTS[:16], gifts))
        self.assertIs(is_improved(wishes, holding, (steps, result)), True)
        self.assertIs(is_improved(wishes, holding, (steps[1:], result)), True)
        self.assertIs(is_improved(wishes, holding, (steps[:-1], result)), False)

    def test_defined_where_the_interface_lists_them(self):
        for function in (improve, is_improved):
            self.assertEqual(function.__module__, improving.__name__)
