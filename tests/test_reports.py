"""Points 4 and 24: what a guest gets who reports another ranking than the own one."""

import copy
import itertools
import unittest

from helpers import MANY_GIFTS, MANY_GUESTS, Model, any_values, raised, random_wishes, same_kind, seeded
from holdings import crowd, jumbled, place, prefers, small_wishes, three
from lastturn import reports
from lastturn.errors import InvalidRanking, InvalidRow, TooLarge, UnknownGuest
from lastturn.reports import after_report, best_report, is_paying
from lastturn.wishes import Wishes

ORDER = ("ann", "bob", "cal")


def contested():
    """Return Wishes of three guests who want much the same gifts."""
    return Wishes(["cup", "hat", "map"], {"ann": ("cup", "hat", "map"), "bob": ("cup", "hat", "map"),
                                          "cal": ("hat", "map", "cup")})


def model_result(wishes, order, guest, ranking):
    """Return the result of a report, by the model."""
    model = Model(wishes.gifts())
    for newcomer in order:
        model.arrive(newcomer, ranking if newcomer == guest else wishes.ranking(newcomer))
    return model.held[guest]


def all_reports(wishes, order, guest):
    """Return the results of all reports by their rankings, from the least ranking on."""
    return {ranking: model_result(wishes, order, guest, ranking) for ranking in itertools.permutations(wishes.gifts())}


def some_orders():
    """Return Wishes, orders and guests: all of the smallest parties, and some that are larger."""
    rng = seeded(51)
    cases = [(wishes, order, guest) for wishes in small_wishes()[::3] + [jumbled(), three(), contested()]
             for order in itertools.permutations(wishes.guests()) for guest in order]
    for many, few in [(4, 4), (4, 4), (3, 4), (5, 4), (4, 5), (4, 6), (3, 6), (5, 5), (2, 5), (0, 4)] * 3:
        wishes = random_wishes(rng, many, few)
        order = rng.sample(wishes.guests(), few)
        cases += [(wishes, order, guest) for guest in order]
    return cases


def wrong_rankings(gifts):
    """Return values that are no rankings of these three gifts."""
    first, second, third = gifts
    return any_values() + [gifts[:2], gifts + [first], [first, second, second], (first, second, None), [gifts],
                           [first, second, [third]], (first, second, True), "".join(gifts), dict.fromkeys(gifts),
                           [first, second, "pen"], [first, second, third, "pen"], {0: first, 1: second, 2: third}]


class AfterReportTest(unittest.TestCase):
    def test_by_hand(self):
        # Bob takes the hat first. Ann takes the cup from the table, and cal the hat from bob, who gets the map.
        wishes = contested()
        self.assertEqual(after_report(wishes, ("bob", "ann", "cal"), "bob", ("hat", "map", "cup")), "map")
        # With his own ranking he loses the cup to ann and takes the hat, loses that to cal and takes the cup again.
        self.assertEqual(after_report(wishes, ("bob", "ann", "cal"), "bob", ("cup", "hat", "map")), "cup")
        self.assertEqual(after_report(wishes, ("bob", "ann", "cal"), "bob", ("map", "cup", "hat")), "map")
        self.assertEqual(after_report(wishes, ("ann", "bob", "cal"), "bob", ("map", "cup", "hat")), "map")
        self.assertEqual(after_report(wishes, ("ann", "bob", "cal"), "bob", ("cup", "hat", "map")), "map")
        self.assertEqual(after_report(wishes, ("ann", "bob", "cal"), "cal", ["cup", "hat", "map"]), "cup")

    def test_no_gifts_and_one_guest(self):
        self.assertIs(after_report(Wishes([], {"ann": (), "bob": ()}), ("bob", "ann"), "bob", ()), None)
        wishes = Wishes(["cup", "hat"], {"ann": ("cup", "hat")})
        self.assertEqual(after_report(wishes, ("ann",), "ann", ("hat", "cup")), "hat")
        wishes = Wishes(["cup"], {"ann": ["cup"], "bob": ["cup"]})
        self.assertIs(after_report(wishes, ("bob", "ann"), "bob", ["cup"]), None)

    def test_against_the_model(self):
        for wishes, order, guest in some_orders():
            for ranking, result in list(all_reports(wishes, order, guest).items())[::3]:
                self.assertEqual(after_report(wishes, order, guest, ranking), result)

    def test_six_guests_and_sixteen_gifts(self):
        rng = seeded(52)
        for many in (16, 16, 16, 7, 10, 1, 0):
            wishes = random_wishes(rng, many, 6)
            order = rng.sample(wishes.guests(), 6)
            for guest in order:
                ranking = rng.sample(wishes.gifts(), many)
                result = model_result(wishes, order, guest, ranking)
                self.assertEqual(after_report(wishes, tuple(order), guest, tuple(ranking)), result)
                self.assertEqual(after_report(wishes, order, guest, ranking), result)

    def test_by_name_and_unmodified(self):
        wishes, order, ranking = contested(), ["ann", "bob", "cal"], ["map", "cup", "hat"]
        self.assertEqual(after_report(ranking=ranking, guest="bob", order=order, wishes=wishes), "map")
        self.assertEqual((wishes, order, ranking), (contested(), ["ann", "bob", "cal"], ["map", "cup", "hat"]))

    def test_rankings_of_every_kind(self):
        for wishes in (three(), crowd(7, 3)):
            order = wishes.guests()
            for value in wrong_rankings(wishes.gifts()):
                with self.subTest(value=value):
                    error = raised(self, InvalidRanking, after_report, wishes, order, order[1], value)
                    self.assertEqual(error.guest, order[1])
                    error = raised(self, InvalidRanking, after_report, wishes=wishes, order=order, guest=order[2],
                                   ranking=value)
                    self.assertEqual(error.guest, order[2])

    def test_too_many_guests(self):
        for count in (7, 16):
            wishes = crowd(count, 2)
            error = raised(self, TooLarge, after_report, wishes, wishes.guests(), MANY_GUESTS[3], MANY_GIFTS[:2])
            self.assertEqual(error.limit, 6)


class CommonErrorsTest(unittest.TestCase):
    def calls(self):
        """Return the functions with what they are passed behind the guest: the first right, the second wrong."""
        return [(after_report, {"ranking": ("hat", "cup", "map")}), (after_report, {"ranking": None}), (best_report, {}),
                (is_paying, {"value": ("hat", "cup", "map")}), (is_paying, {"value": [{}]})]

    def test_orders_of_every_kind_come_first(self):
        wrong = any_values() + [["ann", "bob"], ("ann", "bob", "bob"), ["ann", "bob", "cal", "cal"], "annbobcal",
                                ["ann", "bob", ["cal"]], ("ann", "bob", None), {"ann": 0, "bob": 1, "cal": 2}]
        for function, others in self.calls():
            for value in wrong:
                for guest in ("ann", "zoe", None):
                    with self.subTest(value=value):
                        raised(self, InvalidRow, function, three(), value, guest, *others.values())
                        raised(self, InvalidRow, function, wishes=three(), order=value, guest=guest, **others)
            raised(self, InvalidRow, function, crowd(7, 7), MANY_GUESTS[:6], "zoe", *others.values())

    def test_guests_of_every_kind_come_second(self):
        for function, others in self.calls():
            for value in any_values() + ["zoe", "cup", "an", ["ann"], ("ann",), {"ann": "ann"}]:
                for wishes in (three(), crowd(7, 7)):
                    with self.subTest(value=value):
                        order = wishes.guests()
                        error = raised(self, UnknownGuest, function, wishes, order, value, *others.values())
                        self.assertTrue(same_kind(error.guest, value))
                        error = raised(self, UnknownGuest, function, wishes=wishes, order=order, guest=value, **others)
                        self.assertTrue(same_kind(error.guest, value))
        for function, others in self.calls():
            raised(self, UnknownGuest, function, Wishes(["cup"], {}), (), "ann", *others.values())

    def test_defined_where_the_interface_lists_them(self):
        for function in (after_report, best_report, is_paying):
            self.assertEqual(function.__module__, reports.__name__)


class BestReportTest(unittest.TestCase):
    def test_by_hand(self):
        self.assertEqual(best_report(Wishes([], {"ann": ()}), ("ann",), "ann"), (None, ()))
        wishes = Wishes(["hat", "cup"], {"ann": ("cup", "hat")})
        self.assertEqual(best_report(wishes, ["ann"], "ann"), ("cup", ("cup", "hat")))
        # Bob loses the only gift to ann, whatever he says.
        wishes = Wishes(["cup"], {"ann": ["cup"], "bob": ["cup"]})
        self.assertEqual(best_report(wishes, ("bob", "ann"), "bob"), (None, ("cup",)))
        # The last guest gets what they say; all rankings with the map in front give it, and this is the least one.
        self.assertEqual(best_report(Wishes(["cup", "hat", "map"], {"ann": ("map", "hat", "cup")}), ("ann",), "ann"),
                         ("map", ("map", "cup", "hat")))

    def test_against_all_reports(self):
        paying = 0
        for wishes, order, guest in some_orders():
            results = all_reports(wishes, order, guest)
            best = min((place(wishes.ranking(guest), result) for result in results.values()))
            ranking = [ranking for ranking in results if place(wishes.ranking(guest), results[ranking]) == best][0]
            self.assertTrue(same_kind(best_report(wishes, order, guest), (results[ranking], ranking)))
            paying += best < place(wishes.ranking(guest), results[wishes.ranking(guest)])
        # There are parties in which another ranking pays, or the test would show little.
        self.assertGreater(paying, 20)

    def test_six_of_each(self):
        for seed in (53, 54):
            wishes = random_wishes(seeded(seed), 6, 6)
            for guest in wishes.guests():
                result, ranking = best_report(wishes, wishes.guests(), guest)
                own = wishes.ranking(guest)
                self.assertEqual(model_result(wishes, wishes.guests(), guest, ranking), result)
                self.assertLessEqual(place(own, result), place(own, model_result(wishes, wishes.guests(), guest, own)))
                for other in list(itertools.permutations(wishes.gifts()))[::17]:
                    found = model_result(wishes, wishes.guests(), guest, other)
                    self.assertFalse(prefers(wishes, guest, found, result))
                    if found == result:
                        self.assertLessEqual([wishes.gifts().index(gift) for gift in ranking],
                                             [wishes.gifts().index(gift) for gift in other])

    def test_by_name_and_unmodified(self):
        wishes, order = contested(), ["bob", "ann", "cal"]
        self.assertEqual(best_report(guest="bob", order=order, wishes=wishes), best_report(wishes, tuple(order), "bob"))
        self.assertEqual((wishes, order), (contested(), ["bob", "ann", "cal"]))

    def test_too_many_guests_or_gifts(self):
        for guests, gifts in ((7, 1), (7, 7), (16, 0), (1, 7), (6, 7), (3, 16), (16, 16)):
            wishes = crowd(guests, gifts)
            order = wishes.guests()
            self.assertEqual(raised(self, TooLarge, best_report, wishes, order, order[0]).limit, 6)
            self.assertEqual(raised(self, TooLarge, best_report, wishes=wishes, order=order, guest=order[0]).limit, 6)


class IsPayingTest(unittest.TestCase):
    def test_against_all_reports(self):
        for wishes, order, guest in some_orders()[::2]:
            results = all_reports(wishes, order, guest)
            own = results[wishes.ranking(guest)]
            for ranking, result in results.items():
                pays = prefers(wishes, guest, result, own)
                self.assertIs(is_paying(wishes, order, guest, ranking), pays)
                self.assertIs(is_paying(wishes, order, guest, list(ranking)), False)

    def test_the_own_ranking_does_not_pay(self):
        for wishes, order, guest in some_orders()[::3]:
            self.assertIs(is_paying(wishes, order, guest, wishes.ranking(guest)), False)

    def test_six_guests_and_sixteen_gifts(self):
        rng = seeded(55)
        answers = []
        for many in (16, 16, 7, 10, 8, 7, 6, 6) * 4:
            wishes = random_wishes(rng, many, 6)
            order = rng.sample(wishes.guests(), 6)
            for guest in order[:3]:
                own = wishes.ranking(guest)
                for ranking in [own[1:] + own[:1], (own[1], own[0]) + own[2:], own[::-1], own[2:] + own[:2]]:
                    pays = prefers(wishes, guest, model_result(wishes, order, guest, ranking),
                                   model_result(wishes, order, guest, own))
                    self.assertIs(is_paying(wishes, order, guest, ranking), pays)
                    answers.append(pays)
        self.assertIn(True, answers)

    def paying(self):
        """Return a call that answers True, as the dict of its arguments."""
        for wishes, order, guest in some_orders():
            own = model_result(wishes, order, guest, wishes.ranking(guest))
            for ranking, result in all_reports(wishes, order, guest).items():
                if len(ranking) == 3 and prefers(wishes, guest, result, own):
                    return {"wishes": wishes, "order": order, "guest": guest, "value": ranking}
        return None

    def test_values_of_every_kind(self):
        call = self.paying()
        value = call["value"]
        self.assertIs(is_paying(**call), True)
        self.assertIs(is_paying(*call.values()), True)
        wrong = any_values() + wrong_rankings(list(value)) + [
            list(value), (list(value),), (value,), [value], value + value[:1], value + (None,), value[:2],
            tuple([gift] for gift in value), tuple((gift,) for gift in value), dict.fromkeys(value), {value: value}]
        for other in wrong:
            before = copy.deepcopy(other)
            with self.subTest(value=other):
                self.assertIs(is_paying(**{**call, "value": other}), False)
                self.assertTrue(same_kind(other, before))

    def test_too_many_guests(self):
        for count in (7, 16):
            wishes = crowd(count, 2)
            for value in any_values() + [tuple(MANY_GIFTS[:2])]:
                error = raised(self, TooLarge, is_paying, wishes, wishes.guests(), MANY_GUESTS[3], value)
                self.assertEqual(error.limit, 6)
