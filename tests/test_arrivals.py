"""Points 12 and 23: what arrival orders lead to."""

import itertools
import time
import unittest

from helpers import MANY_GIFTS, MANY_GUESTS, Model, all_wishes, any_values, check_same, raised, random_wishes, same_kind
from helpers import seeded
from lastturn import arrivals
from lastturn.arrivals import after_arrivals, extremes, leads_to, outcomes
from lastturn.errors import InvalidHolding, InvalidRow, TooLarge, UnknownGuest
from lastturn.parties import Party
from lastturn.rounds import arrive
from lastturn.wishes import Wishes


def example():
    return Wishes(["lamp", "vase"], {"ann": ("vase", "lamp"), "bob": ("vase", "lamp")})


def turned():
    """Return Wishes whose guests and gifts are in an order that is not alphabetical."""
    return Wishes(["vase", "lamp"], {"zoe": ("lamp", "vase"), "bob": ("lamp", "vase"), "ann": ("lamp", "vase")})


def seven():
    return Wishes(["lamp"], {guest: ("lamp",) for guest in MANY_GUESTS[:7]})


def carried_out(wishes, order):
    """Return the model after these arrivals, and the takes of each."""
    model = Model(wishes.gifts())
    return model, [model.arrive(guest, wishes.ranking(guest)) for guest in order]


def all_results(wishes):
    """Return all orders, from the least one on, each with the holding to which the model is led by it."""
    results = []
    for order in itertools.permutations(wishes.guests()):
        held = carried_out(wishes, order)[0].held
        results.append((order, {guest: held[guest] for guest in wishes.guests()}))
    return results


def place(names, name):
    return len(names) if name is None else names.index(name)


def some_wishes():
    rng = seeded(7)
    sizes = [(many, few) for many in range(4) for few in range(3)] + [(1, 3), (2, 3)]
    small = [wishes for many, few in sizes for wishes in all_wishes(many, few)]
    return small + [random_wishes(rng, many, few) for many, few in [(3, 3), (4, 3), (3, 4), (4, 4), (5, 4), (2, 5), (5, 5)]
                    for _ in range(6)]


class AfterArrivalsTest(unittest.TestCase):
    def test_by_hand(self):
        party, rounds = after_arrivals(example(), ("bob", "ann"))
        self.assertEqual(rounds, [[("bob", "vase", None)], [("ann", "vase", "bob"), ("bob", "lamp", None)]])
        self.assertEqual(party, Party(Wishes(["lamp", "vase"], {"bob": ("vase", "lamp"), "ann": ("vase", "lamp")}),
                                      ("ann", "bob")))
        self.assertEqual(party.wishes().guests(), ["bob", "ann"])

    def test_no_guests_and_no_gifts(self):
        self.assertEqual(after_arrivals(Wishes(["lamp"], {}), ()), (Party(Wishes(["lamp"], {}), ()), []))
        party, rounds = after_arrivals(Wishes([], {"ann": (), "bob": ()}), ["bob", "ann"])
        self.assertEqual([party.row(), rounds], [("ann", "bob"), [[("bob", None, None)], [("ann", None, None)]]])

    def test_against_the_model(self):
        rng = seeded(8)
        for many, few in [(16, 16), (0, 16), (16, 7), (7, 16), (3, 3), (15, 16)] * 5:
            wishes = random_wishes(rng, many, few)
            order = rng.sample(wishes.guests(), few)
            result = after_arrivals(wishes, order)
            self.assertIs(type(result), tuple)
            model, rounds = carried_out(wishes, order)
            check_same(self, result[0], model)
            self.assertTrue(same_kind(result[1], rounds))
            self.assertEqual(result[0].wishes().guests(), order)
            self.assertEqual(after_arrivals(wishes, tuple(order)), result)

    def test_by_name_and_new(self):
        rounds = after_arrivals(order=["bob", "ann"], wishes=example())[1]
        rounds[0].clear()
        rounds.clear()
        self.assertEqual(len(after_arrivals(example(), ("bob", "ann"))[1][0]), 1)

    def test_orders_of_every_kind(self):
        wrong = any_values() + [["ann"], ("ann", "cy"), ["ann", "bob", "bob"], ("bob", "bob"), ["ann", ["bob"]],
                                ("ann", True), "annbob", {"ann": 0, "bob": 1}, [("ann", "bob")], ["lamp", "vase"]]
        for value in wrong:
            with self.subTest(value=value):
                raised(self, InvalidRow, after_arrivals, example(), value)
                raised(self, InvalidRow, after_arrivals, wishes=example(), order=value)


class OutcomesTest(unittest.TestCase):
    def test_example_of_the_document(self):
        self.assertEqual(outcomes(example()), [({"ann": "lamp", "bob": "vase"}, 1, ("ann", "bob")),
                                               ({"ann": "vase", "bob": "lamp"}, 1, ("bob", "ann"))])

    def test_by_hand(self):
        # The last of the three takes the lamp, the one before it gets the vase, and the first goes without.
        found = outcomes(turned())
        self.assertEqual([(list(holding.items()), number, order) for holding, number, order in found], [
            ([("zoe", "vase"), ("bob", "lamp"), ("ann", None)], 1, ("ann", "zoe", "bob")),
            ([("zoe", "vase"), ("bob", None), ("ann", "lamp")], 1, ("bob", "zoe", "ann")),
            ([("zoe", "lamp"), ("bob", "vase"), ("ann", None)], 1, ("ann", "bob", "zoe")),
            ([("zoe", "lamp"), ("bob", None), ("ann", "vase")], 1, ("bob", "ann", "zoe")),
            ([("zoe", None), ("bob", "vase"), ("ann", "lamp")], 1, ("zoe", "bob", "ann")),
            ([("zoe", None), ("bob", "lamp"), ("ann", "vase")], 1, ("zoe", "ann", "bob")),
        ])

    def test_equal_holdings_are_counted_once_with_the_least_order(self):
        wishes = Wishes(["lamp", "vase", "ball"], {"cy": ("vase", "ball", "lamp"), "bob": ("lamp", "vase", "ball"),
                                                   "ann": ("ball", "lamp", "vase")})
        self.assertEqual(outcomes(wishes), [({"cy": "vase", "bob": "lamp", "ann": "ball"}, 6, ("cy", "bob", "ann"))])

    def test_no_guests_and_no_gifts(self):
        self.assertEqual(outcomes(Wishes(["lamp"], {})), [({}, 1, ())])
        self.assertEqual(outcomes(Wishes([], {"bob": (), "ann": ()})), [({"bob": None, "ann": None}, 2, ("bob", "ann"))])

    def test_against_the_model(self):
        for wishes in some_wishes():
            gifts, results = wishes.gifts(), all_results(wishes)
            expected = []
            for holding in sorted({tuple(place(gifts, gift) for gift in held.values()) for _, held in results}):
                orders = [order for order, held in results
                          if tuple(place(gifts, gift) for gift in held.values()) == holding]
                expected.append((dict(zip(wishes.guests(), [(gifts + [None])[at] for at in holding])), len(orders),
                                 orders[0]))
            self.assertTrue(same_kind(outcomes(wishes), expected))

    def test_six_guests_and_sixteen_gifts(self):
        wishes = random_wishes(seeded(9), 16, 6)
        found = outcomes(wishes)
        self.assertEqual(sum(number for _, number, _ in found), 720)
        for number, (holding, _, order) in enumerate(found):
            self.assertEqual(list(holding), wishes.guests())
            self.assertEqual(after_arrivals(wishes, order)[0].holding(), holding)
            if number in (0, 1, len(found) - 1):
                self.assertEqual(leads_to(wishes, holding), order)
        crowd = Wishes(["lamp"], {guest: ["lamp"] for guest in MANY_GUESTS[:6]})
        self.assertEqual([number for _, number, _ in outcomes(crowd)], [120] * 6)

    def test_new_results_and_by_name(self):
        wishes = example()
        found = outcomes(wishes=wishes)
        found[0][0].clear()
        found.clear()
        self.assertEqual(outcomes(wishes)[0][0], {"ann": "lamp", "bob": "vase"})
        self.assertEqual(wishes, example())

    def test_too_many_guests(self):
        self.assertEqual(raised(self, TooLarge, outcomes, seven()).limit, 6)
        wishes = Wishes([], {guest: () for guest in MANY_GUESTS[:16]})
        self.assertEqual(raised(self, TooLarge, outcomes, wishes=wishes).limit, 6)


class LeadsToTest(unittest.TestCase):
    def test_by_hand(self):
        self.assertEqual(leads_to(example(), {"ann": "lamp", "bob": "vase"}), ("ann", "bob"))
        self.assertEqual(leads_to(example(), {"bob": "lamp", "ann": "vase"}), ("bob", "ann"))
        self.assertIs(leads_to(example(), {"ann": "lamp", "bob": None}), None)
        self.assertIs(leads_to(example(), {"ann": None, "bob": None}), None)
        self.assertEqual(leads_to(Wishes(["lamp"], {}), {}), ())

    def test_against_the_model(self):
        for wishes in some_wishes()[-30:]:
            results = all_results(wishes)
            rows = itertools.permutations(wishes.gifts() + [None] * len(wishes.guests()), len(wishes.guests()))
            for held in list(itertools.islice(rows, 15)) + [tuple(holding.values()) for _, holding in results[:5]]:
                holding = dict(zip(wishes.guests(), held))
                orders = [order for order, reached in results if reached == holding]
                self.assertTrue(same_kind(leads_to(wishes, holding), orders[0] if orders else None))

    def test_by_name_and_unmodified(self):
        holding = {"bob": "vase", "ann": "lamp"}
        self.assertEqual(leads_to(holding=holding, wishes=example()), ("ann", "bob"))
        self.assertEqual(list(holding.items()), [("bob", "vase"), ("ann", "lamp")])

    def test_holdings_of_every_kind(self):
        for wishes, guests in ((example(), ["ann", "bob"]), (seven(), MANY_GUESTS[:7])):
            for value in any_values() + [dict.fromkeys(guests[1:]), dict.fromkeys(guests + ["zoe"]), guests, {}]:
                with self.subTest(value=value):
                    self.assertIs(raised(self, InvalidHolding, leads_to, wishes, value).guest, None)
            for value in any_values() + ["ann", "kite", ["lamp"]]:
                if value is not None:
                    holding = {**dict.fromkeys(guests, value), guests[0]: None}
                    self.assertEqual(raised(self, InvalidHolding, leads_to, wishes, holding).guest, guests[1])
            holding = dict.fromkeys(reversed(guests), "lamp")
            self.assertEqual(raised(self, InvalidHolding, leads_to, wishes=wishes, holding=holding).guest, guests[1])

    def test_too_many_guests(self):
        self.assertEqual(raised(self, TooLarge, leads_to, seven(), dict.fromkeys(MANY_GUESTS[:7])).limit, 6)


def led_by_arrive(wishes):
    """Return all orders, from the least one on, each with the holding to which `arrive` leads."""
    begun = [((), Party(Wishes(wishes.gifts(), {}), ()))]
    for _ in wishes.guests():
        begun = [(order + (guest,), arrive(party, guest, wishes.ranking(guest))[0])
                 for order, party in begun for guest in wishes.guests() if guest not in order]
    return [(order, party.holding()) for order, party in begun]


class ManyGuestsTest(unittest.TestCase):
    """Orders that lead to the same holding on the way go on together; the answers are those of each order."""

    def wishes(self):
        """Return Wishes of five or six guests: all rankings the same, or by chance."""
        rng = seeded(11)
        guests = ["zoe", "ann", "moe", "cy", "bob", "dan"]
        found = [random_wishes(rng, many, few) for many, few in [(6, 6), (16, 6), (3, 6), (5, 6), (4, 5), (7, 5), (2, 5)]]
        for many in (0, 1, 2, 3, 5, 6, 16):
            gifts = MANY_GIFTS[many - 1::-1] if many else []
            found.append(Wishes(gifts, {guest: sorted(gifts) for guest in guests}))
        return found

    def test_against_arrive(self):
        for wishes in self.wishes():
            gifts, guests = wishes.gifts(), wishes.guests()
            led = led_by_arrive(wishes)
            orders = {}
            for order, holding in led:
                orders.setdefault(tuple(place(gifts, holding[guest]) for guest in guests), []).append(order)
            expected = [(dict(zip(guests, [(gifts + [None])[at] for at in key])), len(orders[key]), orders[key][0])
                        for key in sorted(orders)]
            self.assertTrue(same_kind(outcomes(wishes), expected))
            for holding, _, order in expected[::7] + expected[-1:]:
                self.assertTrue(same_kind(leads_to(wishes, holding), order))
            self.assertEqual(leads_to(wishes, dict.fromkeys(guests)), None if gifts else tuple(guests))
            for guest in guests:
                ranked = sorted(led, key=lambda pair: place(wishes.ranking(guest), pair[1][guest]))
                best = ranked[0]
                worst = [pair for pair in led if pair[1][guest] == ranked[-1][1][guest]][0]
                self.assertTrue(same_kind(extremes(wishes, guest), (best[1][guest], best[0], worst[1][guest], worst[0])))

    def test_the_time_that_they_take(self):
        # They are asked many thousand times, so that they must not carry out every round on parties.
        many = Wishes(list("abcdefghijklmnop"), {guest: list("abcdefghijklmnop") for guest in "abcdef"})
        few = Wishes(list("abc"), {guest: list("abc") for guest in "abcdef"})
        for wishes in (many, few):
            last = led_by_arrive(wishes)[-1][1]
            allowed = time_of(lambda: led_by_arrive(wishes)) / 2
            for call in (lambda: outcomes(wishes), lambda: extremes(wishes, "a"), lambda: leads_to(wishes, last),
                         lambda: leads_to(wishes, dict.fromkeys("abcdef"))):
                self.assertLess(time_of(call), allowed)


def time_of(call):
    """Return the least time that the call takes."""
    times = []
    for _ in range(5):
        start = time.process_time()
        call()
        times.append(time.process_time() - start)
    return min(times)


class ExtremesTest(unittest.TestCase):
    def test_by_hand(self):
        self.assertEqual(extremes(example(), "ann"), ("vase", ("bob", "ann"), "lamp", ("ann", "bob")))
        self.assertEqual(extremes(turned(), "zoe"), ("lamp", ("bob", "ann", "zoe"), None, ("zoe", "bob", "ann")))
        self.assertEqual(extremes(turned(), "ann"), ("lamp", ("zoe", "bob", "ann"), None, ("ann", "zoe", "bob")))
        self.assertEqual(extremes(Wishes([], {"ann": ()}), "ann"), (None, ("ann",), None, ("ann",)))
        self.assertEqual(extremes(Wishes(["lamp"], {"ann": ["lamp"]}), "ann"), ("lamp", ("ann",), "lamp", ("ann",)))

    def test_against_the_model(self):
        for wishes in some_wishes():
            results = all_results(wishes)
            for guest in wishes.guests():
                worth = [place(wishes.ranking(guest), held[guest]) for _, held in results]
                expected = ()
                for at in (worth.index(min(worth)), worth.index(max(worth))):
                    expected = expected + (results[at][1][guest], results[at][0])
                self.assertTrue(same_kind(extremes(wishes, guest), expected))

    def test_six_guests_and_sixteen_gifts(self):
        wishes = random_wishes(seeded(10), 16, 6)
        guest = wishes.guests()[3]
        best, order, worst, other = extremes(wishes, guest)
        self.assertEqual(after_arrivals(wishes, order)[0].holding()[guest], best)
        self.assertEqual(after_arrivals(wishes, other)[0].holding()[guest], worst)
        self.assertEqual(best, wishes.ranking(guest)[0])

    def test_by_name(self):
        self.assertEqual(extremes(guest="ann", wishes=example()), extremes(example(), "ann"))

    def test_guests_of_every_kind(self):
        for wishes in (example(), seven()):
            for value in any_values() + ["lamp", "vase", "cy", ("ann", "bob"), ["ann"]]:
                with self.subTest(value=value):
                    self.assertTrue(same_kind(raised(self, UnknownGuest, extremes, wishes, value).guest, value))
                    error = raised(self, UnknownGuest, extremes, wishes=wishes, guest=value)
                    self.assertTrue(same_kind(error.guest, value))

    def test_too_many_guests(self):
        self.assertEqual(raised(self, TooLarge, extremes, seven(), "pc").limit, 6)

    def test_defined_where_the_interface_lists_them(self):
        for function in (after_arrivals, outcomes, leads_to, extremes):
            self.assertEqual(function.__module__, arrivals.__name__)
