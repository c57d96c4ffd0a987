"""Point 25: what the guests take if everybody knows the order and all rankings."""

import unittest

from helpers import MANY_GIFTS, MANY_GUESTS, Model, all_wishes, any_values, random_wishes, raised, same_kind, seeded
from holdings import crowd, jumbled, place, prefers, small_wishes, three
from lastturn import planning
from lastturn.arrivals import after_arrivals
from lastturn.errors import InvalidRow, TooLarge
from lastturn.planning import gaining, losing, planned
from lastturn.wishes import Wishes


def example():
    return Wishes(["lamp", "vase"], {"ann": ("vase", "lamp"), "bob": ("vase", "lamp")})


class Tree:
    """All takes of an order of arrivals, one after the other, without any short cut."""

    def __init__(self, wishes, order):
        self.wishes = wishes
        self.order = list(order)

    def judged(self, guest, holding):
        return place(self.wishes.ranking(guest), holding[guest])

    def arrivals(self, holding, table):
        """Return (holding, rounds) at the end, from the next arrival on."""
        if len(holding) == len(self.order):
            return holding, []
        newcomer = self.order[len(holding)]
        end, takes, rounds = self.take(newcomer, {**holding, newcomer: None}, table, ())
        return end, [takes] + rounds

    def take(self, taker, holding, table, taken):
        """Return (holding, takes of this round, later rounds); the taker holds nothing now."""
        ends = []
        for gift in self.wishes.gifts():
            if gift in taken:
                continue
            after = {**holding, taker: gift}
            if gift in table:
                end, rounds = self.arrivals(after, table - {gift})
                found = (end, [(taker, gift, None)], rounds)
            else:
                source = [guest for guest in holding if holding[guest] == gift][0]
                end, takes, rounds = self.take(source, {**after, source: None}, table, taken + (gift,))
                found = (end, [(taker, gift, source)] + takes, rounds)
            ends.append(((self.judged(taker, end), place(self.wishes.ranking(taker), gift)), found))
        if not ends:
            end, rounds = self.arrivals(holding, table)
            return end, [(taker, None, None)], rounds
        return min(ends, key=lambda pair: pair[0])[1]


def tree_plan(wishes, order):
    """Return what `planned` has to return."""
    end, rounds = Tree(wishes, order).arrivals({}, frozenset(wishes.gifts()))
    return {guest: end[guest] for guest in wishes.guests()}, rounds


def some_orders():
    """Return Wishes with orders: some of the smallest parties, and larger ones."""
    rng = seeded(61)
    cases = [(wishes, rng.sample(wishes.guests(), len(wishes.guests())))
             for wishes in small_wishes() + all_wishes(3, 3)[::5] + [jumbled(), three()] * 3]
    sizes = [(4, 4)] * 12 + [(4, 3), (3, 4), (2, 4), (1, 4), (0, 4), (4, 2), (4, 1), (3, 4), (4, 3)] * 3
    for many, few in sizes:
        wishes = random_wishes(rng, many, few)
        cases.append((wishes, rng.sample(wishes.guests(), few)))
    return cases


class PlannedTest(unittest.TestCase):
    def test_example_of_the_document(self):
        self.assertEqual(planned(example(), ("ann", "bob")), (
            {"ann": "lamp", "bob": "vase"}, [[("ann", "vase", None)], [("bob", "vase", "ann"), ("ann", "lamp", None)]]))

    def test_by_hand(self):
        self.assertEqual(planned(Wishes([], {}), ()), ({}, []))
        self.assertEqual(planned(Wishes(["cup"], {}), ()), ({}, []))
        self.assertEqual(planned(Wishes([], {"ann": (), "bob": ()}), ("bob", "ann")),
                         ({"ann": None, "bob": None}, [[("bob", None, None)], [("ann", None, None)]]))
        wishes = Wishes(["cup"], {"ann": ["cup"], "bob": ["cup"]})
        # A taker takes something, though ann knows that it will not be hers.
        self.assertEqual(planned(wishes, ("ann", "bob")),
                         ({"ann": None, "bob": "cup"}, [[("ann", "cup", None)], [("bob", "cup", "ann"), ("ann", None, None)]]))
        wishes = Wishes(["cup", "hat"], {"ann": ("cup", "hat"), "bob": ("hat", "cup")})
        self.assertEqual(planned(wishes, ("ann", "bob")),
                         ({"ann": "cup", "bob": "hat"}, [[("ann", "cup", None)], [("bob", "hat", None)]]))

    def test_among_takes_with_the_same_result_the_best_gift(self):
        # Ann loses whatever she takes only if bob wants it; she ends with the cup in any case and takes the hat first.
        wishes = Wishes(["cup", "hat"], {"ann": ("hat", "cup"), "bob": ("hat", "cup")})
        self.assertEqual(planned(wishes, ("ann", "bob"))[1], [[("ann", "hat", None)], [("bob", "hat", "ann"),
                                                                                       ("ann", "cup", None)]])

    def test_against_the_tree_of_all_takes(self):
        for wishes, order in some_orders():
            found = planned(wishes, order)
            self.assertTrue(same_kind(found, tree_plan(wishes, order)))
            self.assertEqual(planned(wishes, tuple(order)), found)

    def test_takes_lead_to_the_holding(self):
        for wishes, order in some_orders():
            holding, rounds = planned(wishes, order)
            held = {}
            for takes in rounds:
                for guest, gift, source in takes:
                    self.assertEqual(source, None if gift is None else (
                        [other for other in held if held[other] == gift] + [None])[0])
                    held[guest] = gift
                    if source is not None:
                        held[source] = None
            self.assertEqual(held, holding)
            self.assertEqual([takes[0][0] for takes in rounds], order)

    def test_new_results_and_by_name(self):
        wishes, order = example(), ["ann", "bob"]
        holding, rounds = planned(order=order, wishes=wishes)
        holding.clear()
        rounds[0].clear()
        rounds.clear()
        self.assertEqual(planned(wishes, order)[0], {"ann": "lamp", "bob": "vase"})
        self.assertEqual(planned(wishes, order)[1][0], [("ann", "vase", None)])
        self.assertEqual((wishes, order), (example(), ["ann", "bob"]))


class GainingAndLosingTest(unittest.TestCase):
    def test_by_hand(self):
        self.assertEqual(gaining(example(), ("ann", "bob")), [])
        self.assertEqual(losing(example(), ("ann", "bob")), [])
        self.assertEqual([gaining(Wishes([], {}), ()), losing(Wishes(["cup"], {}), [])], [[], []])

    def test_against_the_tree_and_the_model(self):
        changed = [0, 0]
        for wishes, order in some_orders():
            model = Model(wishes.gifts())
            for guest in order:
                model.arrive(guest, wishes.ranking(guest))
            holding = tree_plan(wishes, order)[0]
            self.assertEqual(after_arrivals(wishes, order)[0].holding(), model.held)
            better = [guest for guest in wishes.guests() if prefers(wishes, guest, holding[guest], model.held[guest])]
            worse = [guest for guest in wishes.guests() if prefers(wishes, guest, model.held[guest], holding[guest])]
            self.assertTrue(same_kind(gaining(wishes, order), better))
            self.assertTrue(same_kind(losing(wishes, tuple(order)), worse))
            changed = [changed[0] + len(better), changed[1] + len(worse)]
        self.assertGreater(min(changed), 5)

    def test_by_name_and_unmodified(self):
        for wishes, order in some_orders()[::20]:
            kept = list(order)
            self.assertEqual(gaining(order=order, wishes=wishes), gaining(wishes, order))
            self.assertEqual(losing(order=order, wishes=wishes), losing(wishes, order))
            self.assertEqual(order, kept)


class ErrorsTest(unittest.TestCase):
    def test_orders_of_every_kind(self):
        for function in (planned, gaining, losing):
            for wishes in (three(), crowd(5, 5), crowd(16), crowd(3, 5)):
                guests = wishes.guests()
                for value in any_values() + [guests[1:], guests + guests[:1], guests[1:] + [None], guests[:-1] + [guests],
                                             "".join(guests), dict.fromkeys(guests), [guests], guests[:-1] + ["zed"]]:
                    with self.subTest(value=value):
                        raised(self, InvalidRow, function, wishes, value)
                        raised(self, InvalidRow, function, wishes=wishes, order=value)
            raised(self, InvalidRow, function, Wishes(["cup"], {}), ("ann",))

    def test_too_many_guests_or_gifts(self):
        for function in (planned, gaining, losing):
            for guests, gifts in ((5, 0), (5, 1), (5, 5), (0, 5), (1, 5), (4, 5), (5, 4), (16, 16)):
                wishes = crowd(guests, gifts)
                self.assertEqual(raised(self, TooLarge, function, wishes, wishes.guests()[::-1]).limit, 4)
                self.assertEqual(raised(self, TooLarge, function, wishes=wishes, order=wishes.guests()).limit, 4)

    def test_four_of_each(self):
        wishes = crowd(4, 4)
        self.assertEqual(planned(wishes, MANY_GUESTS[:4])[0], dict(zip(MANY_GUESTS[:4], MANY_GIFTS[3::-1])))

    def test_defined_where_the_interface_lists_them(self):
        for function in (planned, gaining, losing):
            self.assertEqual(function.__module__, planning.__name__)
