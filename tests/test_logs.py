"""Points 55 and 56: logs of arrivals and turns, and which of them are valid."""

import copy
import unittest

from helpers import MANY_GIFTS, MANY_GUESTS, any_values, raised, same_kind, seeded
from lastturn import logs
from lastturn.errors import InvalidGifts, TooLarge
from lastturn.logs import check_log, holding_of_log, row_of_log
from lastturn.parties import Party
from lastturn.rounds import arrive, turn
from lastturn.wishes import Wishes
from logbook import (G, L, OFFERED, OFFERED_GIFTS, TWISTED, account_of, as_lists, changed, check_log_errors, many_gifts,
                     no_gifts, no_logs, random_log)


def played(seed, gift_count, guest_count, event_count):
    """Return gifts, the log of arrivals and turns that `arrive` and `turn` carry out, and the party after them."""
    rng = seeded(seed)
    gifts = rng.sample(MANY_GIFTS, gift_count)
    party = Party(Wishes(gifts, {}), ())
    waiting = rng.sample(MANY_GUESTS, guest_count)
    log = []
    while len(log) < event_count:
        if waiting and (not party.row() or rng.random() < 0.5):
            guest = waiting.pop()
            party, takes = arrive(party, guest, rng.sample(gifts, gift_count))
            log.append(("arrive", guest, takes))
        else:
            guest = rng.choice(party.row())
            party, takes = turn(party, guest)
            log.append(("turn", guest, takes))
    return gifts, log, party


PLAYED = [(1, 0, 2, 5), (2, 1, 3, 9), (3, 2, 2, 9), (4, 3, 3, 12), (5, 5, 4, 20), (6, 6, 4, 20), (7, 4, 8, 20),
          (8, 16, 16, 60), (9, 16, 9, 60), (10, 9, 16, 50), (11, 8, 6, 40), (12, 12, 8, 200)]


class CheckLogTest(unittest.TestCase):
    def test_example_of_the_document(self):
        self.assertEqual(check_log(G, L[:1] + [("arrive", "bob", [("bob", "ball", "ann")])]), 1)
        self.assertIs(check_log(G, L), None)

    def test_valid_logs(self):
        for log in ([], (), L, tuple(L), as_lists(L), L[:2]):
            self.assertIs(check_log(G, log), None)
        self.assertIs(check_log(OFFERED_GIFTS, OFFERED), None)
        self.assertIs(check_log(G, TWISTED), None)
        self.assertIs(check_log([], []), None)
        self.assertIs(check_log(log=[("arrive", "ann", (("ann", None, None),))], gifts=()), None)

    def test_what_arrive_and_turn_carry_out(self):
        for numbers in PLAYED:
            gifts, log, _ = played(*numbers)
            for whole in (log, as_lists(log), tuple(log)):
                self.assertIs(check_log(gifts, whole), None)
                self.assertIs(check_log(tuple(gifts), whole), None)

    def check_event(self, gifts, log, event, valid=False):
        """Check whether the event may follow the log, and that nothing is looked at behind an invalid one."""
        self.assertIs(check_log(gifts, log), None)
        at = len(log)
        for whole in (log + [event], as_lists(log + [event]), (log + [event]) + [None], tuple(log + [event])):
            expected = at + 1 if valid and len(whole) > at + 1 else None if valid else at
            self.assertTrue(same_kind(check_log(gifts, whole), expected), event)
        self.assertEqual(account_of(gifts, log + [event])[0], None if valid else at)

    def test_guests(self):
        for guest in ("ann", "bob", "cy"):
            self.check_event(G, L, ("arrive", guest, [(guest, "kite", "ann"), ("ann", "lamp", None)]))
        self.check_event(G, L[:2], ("turn", "cy", [("cy", "lamp", None)]))
        self.check_event(G, [], ("turn", "ann", [("ann", "kite", None)]))
        for name in ("Ann", "", "ann1", "abcdefghi", "a b"):
            self.check_event(G, [], ("arrive", name, [(name, "kite", None)]))
        self.check_event(G, [], ("arrive", "abcdefgh", [("abcdefgh", "kite", None)]), True)
        # A gift and a guest may have the same name.
        self.check_event(G, [], ("arrive", "kite", [("kite", "kite", None)]), True)
        for kind in ("leave", "arrives", "", "Arrive", "add", "turns"):
            self.check_event(G, L[:1], (kind, "bob", [("bob", "ball", None)]))
            self.check_event(G, L[:1], (kind, "ann", [("ann", "kite", None)]))

    def test_seventeen_guests(self):
        guests = MANY_GUESTS[:17]
        log = [("arrive", guest, [(guest, None, None)]) for guest in guests]
        self.assertIs(check_log([], log[:16]), None)
        self.assertEqual(check_log([], log), 16)
        self.check_event([], log[:15], log[15], True)
        self.check_event([], log[:16], log[16])
        self.check_event([], log[:16], ("turn", "pa", [("pa", None, None)]), True)

    def test_two_hundred_events(self):
        log = [("arrive", "ann", [("ann", "kite", None)])] + [("turn", "ann", [("ann", "kite", None)])] * 220
        self.assertIs(check_log(G, log[:199]), None)
        self.assertIs(check_log(G, log[:200]), None)
        self.assertEqual(check_log(G, log[:201]), 200)
        self.assertEqual(check_log(tuple(G), tuple(log)), 200)
        self.assertEqual(check_log(G, log[:200] + [None]), 200)
        self.assertEqual(check_log(G, log[:199] + [None] + log), 199)

    def test_takes_of_rounds(self):
        log = L[:2]
        self.check_event(G, log, ("arrive", "cy", []))
        self.check_event(G, log, ("arrive", "cy", [("cy", "lamp", None)]), True)
        # The round ends with the first take from the table.
        self.check_event(G, log, ("arrive", "cy", [("cy", "lamp", None), ("cy", "lamp", None)]))
        self.check_event(G, log, ("arrive", "cy", [("cy", "lamp", None), ("ann", "kite", "bob")]))
        # A take too few.
        self.check_event(G, log, ("arrive", "cy", [("cy", "ball", "ann")]))
        self.check_event(G, log, ("arrive", "cy", [("cy", "ball", "ann"), ("ann", "kite", "bob")]))
        self.check_event(G, log, ("arrive", "cy", [("cy", "ball", "ann"), ("ann", "lamp", None)]), True)
        # A wrong taker.
        self.check_event(G, log, ("arrive", "cy", [("ann", "lamp", None)]))
        self.check_event(G, log, ("arrive", "cy", [("cy", "ball", "ann"), ("bob", "lamp", None)]))
        self.check_event(G, log, ("arrive", "cy", [("cy", "ball", "ann"), ("cy", "lamp", None)]))
        # A wrong source.
        self.check_event(G, log, ("arrive", "cy", [("cy", "ball", "bob"), ("bob", "lamp", None)]))
        self.check_event(G, log, ("arrive", "cy", [("cy", "ball", None)]))
        self.check_event(G, log, ("arrive", "cy", [("cy", "lamp", "cy"), ("cy", "ball", "ann")]))
        self.check_event(G, log, ("arrive", "cy", [("cy", "lamp", "ann"), ("ann", "ball", None)]))
        # A gift that was taken before in the round, or that is no gift.
        self.check_event(G, log, ("arrive", "cy", [("cy", "ball", "ann"), ("ann", "ball", "cy"), ("cy", "lamp", None)]))
        self.check_event(G, log, ("arrive", "cy", [("cy", "ball", "ann"), ("ann", "ball", None)]))
        self.check_event(G, log, ("arrive", "cy", [("cy", "vase", None)]))
        self.check_event(G, log, ("arrive", "cy", [("cy", "ann", None)]))
        # The own gift lies on the table in a turn.
        self.check_event(G, log, ("turn", "ann", [("ann", "ball", None)]), True)
        self.check_event(G, log, ("turn", "ann", [("ann", "ball", "ann"), ("ann", "lamp", None)]))
        self.check_event(G, log, ("turn", "ann", [("ann", "kite", "bob"), ("bob", "ball", None)]), True)
        self.check_event(G, log, ("turn", "ann", [("ann", "kite", "bob"), ("bob", "ball", "ann"), ("ann", "lamp", None)]))

    def test_takers_who_go_without(self):
        gifts = ["ball", "kite"]
        log = L[:2]
        self.check_event(gifts, log, ("arrive", "cy", [("cy", "ball", "ann"), ("ann", "kite", "bob"), ("bob", None, None)]), True)
        self.check_event(gifts, log, ("arrive", "cy", [("cy", None, None)]))
        self.check_event(gifts, log, ("arrive", "cy", [("cy", "ball", "ann"), ("ann", None, None)]))
        self.check_event(gifts, log, ("arrive", "cy", [("cy", "ball", "ann"), ("ann", "kite", "bob")]))
        self.check_event(gifts, log, ("arrive", "cy", [("cy", "ball", "ann"), ("ann", "kite", "bob"), ("bob", None, "cy")]))
        self.check_event(gifts, log, ("arrive", "cy", [("cy", "ball", "ann"), ("ann", "kite", "bob"), ("bob", None, "cy"),
                                                       ("cy", None, None)]))
        self.check_event(gifts, log, ("arrive", "cy", [("cy", "ball", "ann"), ("ann", "kite", "bob"), ("bob", "ball", None)]))
        self.check_event(gifts, log, ("arrive", "cy", [("cy", "ball", "ann"), ("ann", "kite", "bob"), ("ann", None, None)]))
        self.check_event(gifts, log, ("arrive", "cy", [("cy", "ball", "ann"), ("ann", "kite", "bob"), ("bob", None, None),
                                                       ("bob", None, None)]))
        self.check_event(gifts, log, ("turn", "ann", [("ann", "kite", "bob"), ("bob", None, None)]))
        self.check_event(G, log, ("turn", "ann", [("ann", "kite", "bob"), ("bob", None, None)]))
        without = log + [("arrive", "cy", [("cy", "ball", "ann"), ("ann", "kite", "bob"), ("bob", None, None)])]
        self.check_event(gifts, without, ("turn", "bob", [("bob", "kite", "ann"), ("ann", "ball", "cy"), ("cy", None, None)]),
                         True)
        self.check_event(gifts, without, ("turn", "bob", [("bob", None, None)]))
        self.check_event([], [], ("arrive", "ann", [("ann", None, None)]), True)
        for takes in ([], [("ann", "kite", None)], [("ann", None, None)] * 2, [("ann", None, "ann")]):
            self.check_event([], [], ("arrive", "ann", takes))
            self.check_event([], [("arrive", "ann", [("ann", None, None)])], ("turn", "ann", takes))

    def test_offers(self):
        log = OFFERED[:4]
        begun = [("cal", "cup", "dan"), ("dan", "pot", None)]
        for offer in ([], [("ann", "map", None)], [("bob", "map", None)], [("ann", "map", None), ("bob", "rug", None)]):
            self.check_event(OFFERED_GIFTS, log, ("turn", "cal", begun + offer), True)
        for offer in (
                # Another gift than the one that is offered.
                [("ann", "rug", None)], [("ann", "hat", None)], [("bob", "rug", None)], [("ann", None, None)],
                [("ann", "map", None), ("bob", "map", None)], [("ann", "map", None), ("bob", "pot", None)],
                [("ann", "map", None), ("bob", "hat", None)],
                # A source, a taker of the round, and guests who are not asked, or asked before.
                [("ann", "map", "cal")], [("ann", "map", "bob")], [("cal", "map", None)], [("dan", "map", None)],
                [("eve", "map", None)], [("bob", "map", None), ("ann", "hat", None)], [("ann", "map", None)] * 2,
                [("ann", "map", None), ("bob", "rug", None), ("dan", "hat", None)],
                [("ann", "map", None), ("bob", "rug", None), ("bob", "hat", None)], [("dan", "map", None), ("ann", "pot", None)],
                [("ann", "map", None), ("bob", "rug", "ann")]):
            self.check_event(OFFERED_GIFTS, log, ("turn", "cal", begun + offer))
        # The gift that was laid on the table was taken again.
        for takes in ([("cal", "map", None), ("ann", "map", None)], [("cal", "map", None), ("ann", "pot", None)],
                      [("cal", "cup", "dan"), ("dan", "map", None), ("ann", "map", None)],
                      [("cal", "cup", "dan"), ("dan", "map", None), ("ann", "pot", None)]):
            self.check_event(OFFERED_GIFTS, log, ("turn", "cal", takes))
        # Nothing is offered after an arrival.
        self.check_event(OFFERED_GIFTS, log, ("arrive", "eve", [("eve", "pot", None), ("ann", "pot", None)]))
        self.check_event(OFFERED_GIFTS, log, ("arrive", "eve", [("eve", "pot", None), ("ann", "map", None)]))

    def test_logs_with_changed_parts(self):
        rng = seeded(131)
        counts = {True: 0, False: 0}
        for _ in range(1200):
            size = rng.choice(((0, 2), (1, 2), (2, 3), (3, 2), (3, 3), (4, 3), (5, 4), (2, 5), (6, 4)))
            gifts, log, _ = random_log(rng, *size, rng.randrange(9), rng.choice((0.0, 0.0, 0.4)))
            self.assertIs(check_log(gifts, log), None)
            for _ in range(6):
                other = log
                for _ in range(rng.choice((1, 1, 2))):
                    other = changed(rng, gifts, other)
                before = copy.deepcopy(other)
                expected, _ = account_of(gifts, other)
                self.assertEqual(check_log(gifts, other), expected, (gifts, other))
                self.assertEqual(other, before)
                counts[expected is None] += 1
        self.assertGreater(min(counts.values()), 1000)

    def test_values_of_every_kind(self):
        for value, event in no_logs():
            with self.subTest(value=value):
                before = repr(value)
                self.assertTrue(same_kind(check_log(G, value), event))
                self.assertTrue(same_kind(check_log(log=value, gifts=tuple(G)), event))
                self.assertEqual(repr(value), before)
        for value in any_values():
            if type(value) not in (list, tuple):
                self.assertEqual(check_log([], value), -1)

    def test_wrong_gifts(self):
        for value in no_gifts():
            with self.subTest(value=value):
                for log in (L, [], None, 0):
                    raised(self, InvalidGifts, check_log, value, log)
                raised(self, InvalidGifts, check_log, log=[], gifts=value)
        for log in (L, [], None, 0):
            self.assertEqual(raised(self, TooLarge, check_log, many_gifts(), log).limit, 16)
        raised(self, InvalidGifts, check_log, many_gifts() + ["ga"], [])
        self.assertIs(check_log(many_gifts()[:16], []), None)


class AfterLogTest(unittest.TestCase):
    def test_examples_of_the_document(self):
        self.assertTrue(same_kind(row_of_log(G, L), ("cy", "ann", "bob")))
        self.assertTrue(same_kind(holding_of_log(G, L), {"ann": "kite", "bob": "lamp", "cy": "ball"}))

    def test_by_hand(self):
        self.assertTrue(same_kind(row_of_log(OFFERED_GIFTS, OFFERED), ("cal", "dan", "ann", "bob")))
        self.assertTrue(same_kind(holding_of_log(OFFERED_GIFTS, OFFERED),
                                  {"ann": "map", "bob": "rug", "cal": "cup", "dan": "pot"}))
        for gifts in ([], G):
            self.assertTrue(same_kind(row_of_log(gifts, []), ()))
            self.assertTrue(same_kind(holding_of_log(gifts, ()), {}))
        self.assertTrue(same_kind(holding_of_log([], [("arrive", "ann", [("ann", None, None)])]), {"ann": None}))

    def test_what_arrive_and_turn_carry_out(self):
        for numbers in PLAYED:
            gifts, log, party = played(*numbers)
            for whole in (log, as_lists(log)):
                self.assertTrue(same_kind(row_of_log(gifts, whole), party.row()))
                self.assertTrue(same_kind(holding_of_log(gifts, whole), party.holding()))

    def test_logs_without_rankings(self):
        rng = seeded(132)
        for _ in range(200):
            gifts, log, model = random_log(rng, rng.randrange(6), rng.randrange(5), 12, 0.5)
            self.assertEqual(row_of_log(gifts, log), tuple(model.row))
            self.assertEqual(list(holding_of_log(gifts, log).items()), list(model.held.items()))
            _, account = account_of(gifts, log)
            self.assertEqual((account.row, account.held), (model.row, model.held))

    def test_new_results_by_name_and_unmodified(self):
        gifts, log = list(G), copy.deepcopy(L)
        holding_of_log(gifts, log).clear()
        self.assertEqual(holding_of_log(log=log, gifts=gifts), {"ann": "kite", "bob": "lamp", "cy": "ball"})
        self.assertEqual(row_of_log(log=as_lists(log), gifts=tuple(gifts)), ("cy", "ann", "bob"))
        self.assertEqual((gifts, log), (G, L))

    def test_wrong_gifts_and_logs(self):
        check_log_errors(self, row_of_log)
        check_log_errors(self, holding_of_log)


class FileTest(unittest.TestCase):
    def test_defined_where_the_interface_lists_them(self):
        for function in (check_log, row_of_log, holding_of_log):
            self.assertEqual(function.__module__, logs.__name__)
