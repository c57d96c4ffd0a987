"""Point 57: what logs show of the rankings of their guests."""

import copy
import itertools
import unittest

from helpers import any_values, raised, same_kind, seeded
from lastturn import comparisons as module
from lastturn.comparisons import certain, comparisons, contradiction, is_contradiction, reason
from lastturn.errors import Contradictory, UnknownGift
from logbook import (G, L, OFFERED, OFFERED_GIFTS, STEPS, TWISTED, account_of, as_lists, check_guests, check_log_errors,
                     closure, is_twisted, random_log, some_logs)

ALONE = [("arrive", "bob", [("bob", "lamp", None)])]


class ComparisonsTest(unittest.TestCase):
    def test_example_of_the_document(self):
        self.assertTrue(same_kind(comparisons(G, L, "ann"), [("kite", "ball", 0), ("kite", "lamp", 0), ("ball", "lamp", 1)]))

    def test_by_hand(self):
        self.assertEqual(comparisons(G, L, "bob"), [("kite", "ball", 1), ("kite", "lamp", 1)])
        self.assertEqual(comparisons(G, L, "cy"), [("ball", "kite", 2), ("ball", "lamp", 2)])
        self.assertEqual(comparisons(["lamp", "kite"], [("arrive", "ann", [("ann", "kite", None)])], "ann"),
                         [("kite", "lamp", 0)])
        self.assertEqual(comparisons([], [("arrive", "ann", [("ann", None, None)])], "ann"), [])
        self.assertEqual(comparisons(["kite"], [("arrive", "ann", [("ann", "kite", None)])], "ann"), [])

    def test_offers(self):
        best = [("rug", "cup", 1), ("rug", "hat", 1), ("rug", "map", 1), ("rug", "pot", 1)]
        second = [("hat", "pot", 3)]
        # ann takes the map for her rug, then bob takes the rug for his hat.
        self.assertEqual(comparisons(OFFERED_GIFTS, OFFERED, "bob"), best + second)
        self.assertEqual(comparisons(OFFERED_GIFTS, OFFERED, "ann"), [
            ("cup", "hat", 0), ("cup", "map", 0), ("cup", "pot", 0), ("cup", "rug", 0), ("map", "hat", 2), ("map", "pot", 2),
            ("map", "rug", 2), ("rug", "hat", 3), ("rug", "pot", 3)])
        passed = OFFERED[:4] + [("turn", "cal", [("cal", "cup", "dan"), ("dan", "pot", None)])]
        # Both are passed, which shows that ann likes the rug better and bob the hat.
        self.assertEqual(comparisons(OFFERED_GIFTS, passed, "ann")[-1], ("rug", "map", 4))
        self.assertEqual(comparisons(OFFERED_GIFTS, passed, "bob"), best + second + [("hat", "map", 4)])
        self.assertEqual(comparisons(OFFERED_GIFTS, passed, "dan")[-3:], [("pot", "hat", 4), ("pot", "map", 4),
                                                                        ("pot", "rug", 4)])
        asked = OFFERED[:4] + [("turn", "cal", [("cal", "pot", None), ("bob", "map", None)])]
        # dan and ann are passed, and bob takes the map for his hat.
        self.assertEqual(comparisons(OFFERED_GIFTS, asked, "ann")[-1], ("rug", "map", 4))
        self.assertEqual(comparisons(OFFERED_GIFTS, asked, "bob")[-1], ("map", "hat", 4))
        # That dan likes the cup better than the map was shown before.
        self.assertEqual([pair for pair in comparisons(OFFERED_GIFTS, asked, "dan") if pair[2] == 4], [])
        self.assertIn(("cup", "map", 3), comparisons(OFFERED_GIFTS, asked, "dan"))
        self.assertEqual(contradiction(OFFERED_GIFTS, asked)[0], "ann")

    def test_first_events_and_order(self):
        again = L + [("turn", "ann", [("ann", "kite", None)]), ("turn", "bob", [("bob", "lamp", None)])]
        self.assertEqual(comparisons(G, again, "ann"), comparisons(G, L, "ann"))
        self.assertEqual(comparisons(G, again, "bob"), [("kite", "ball", 1), ("kite", "lamp", 1), ("lamp", "ball", 4),
                                                        ("lamp", "kite", 4)])
        self.assertEqual(comparisons(G, TWISTED, "ann"), [
            ("ball", "kite", 0), ("ball", "lamp", 0), ("kite", "ball", 1), ("kite", "lamp", 1), ("lamp", "ball", 2),
            ("lamp", "kite", 2)])

    def test_against_a_second_check(self):
        for gifts, log, account in some_logs(141, 150, 0.0) + some_logs(142, 150, 0.4):
            for guest in account.held:
                pairs = sorted((event, gifts.index(one), gifts.index(other))
                               for (one, other), event in account.shown[guest].items())
                expected = [(gifts[one], gifts[other], event) for event, one, other in pairs]
                self.assertTrue(same_kind(comparisons(gifts, log, guest), expected))
                self.assertEqual(comparisons(guest=guest, log=as_lists(log), gifts=tuple(gifts)), expected)

    def test_new_lists_and_unmodified(self):
        gifts, log = list(G), copy.deepcopy(L)
        comparisons(gifts, log, "ann").clear()
        self.assertEqual(len(comparisons(gifts, log, "ann")), 3)
        self.assertEqual((gifts, log), (G, L))

    def test_wrong_arguments(self):
        check_log_errors(self, comparisons, "ann", guest="ann")
        check_guests(self, comparisons)


class ContradictionTest(unittest.TestCase):
    def check_ring(self, gifts, pairs, ring):
        """Check that the ring is a list of different gifts, each shown to be better than the next."""
        self.assertIs(type(ring), list)
        self.assertGreaterEqual(len(ring), 2)
        self.assertEqual(len(set(ring)), len(ring))
        self.assertTrue(set(ring) <= set(gifts))
        for one, other in zip(ring, ring[1:] + ring[:1]):
            self.assertIn((one, other), pairs)

    def test_example_of_the_document(self):
        self.assertIs(contradiction(G, L), None)
        self.assertIs(is_contradiction(G, L, ("ann", ["kite", "ball"])), False)

    def test_by_hand(self):
        guest, ring = contradiction(G, TWISTED[:2])
        self.assertEqual((guest, sorted(ring)), ("ann", ["ball", "kite"]))
        self.assertIs(contradiction(G, TWISTED[:1]), None)
        self.assertIs(contradiction([], []), None)
        self.assertIs(contradiction(gifts=["kite"], log=[("arrive", "ann", [("ann", "kite", None)])]), None)

    def test_the_first_guest(self):
        # bob arrived first, but ann's ring is shown first; then bob's is.
        log = ALONE + [("arrive", "ann", [("ann", "ball", None)]), ("turn", "ann", [("ann", "kite", None)])]
        self.assertEqual(contradiction(G, log)[0], "ann")
        self.assertEqual(contradiction(G, log + [("turn", "bob", [("bob", "ball", None)])])[0], "bob")
        log = ALONE + [("turn", "bob", [("bob", "ball", None)]), ("arrive", "ann", [("ann", "lamp", None)]),
                       ("turn", "ann", [("ann", "kite", None)])]
        self.assertEqual(contradiction(G, log)[0], "bob")

    def test_rings_of_several_lengths(self):
        guests = set()
        rings = set()
        for gifts, log, account in some_logs(143, 400, 0.5):
            found = contradiction(gifts, log)
            twisted = [guest for guest in account.held if is_twisted(account.shown[guest])]
            self.assertIs(found is None, not twisted)
            if found is not None:
                self.assertIs(type(found), tuple)
                guest, ring = found
                self.assertEqual(guest, twisted[0])
                self.check_ring(gifts, account.shown[guest], ring)
                guests.add(list(account.held).index(guest))
                rings.add(len(ring))
                self.assertIs(is_contradiction(gifts, log, found), True)
        self.assertTrue({0, 1} <= guests)
        self.assertTrue({2, 3} <= rings)

    def test_no_contradiction_with_rankings(self):
        for gifts, log, account in some_logs(144, 100, 0.0):
            self.assertIs(contradiction(gifts, log), None)
            for guest in account.held:
                for ring in itertools.permutations(gifts[:4], 2):
                    self.assertIs(is_contradiction(gifts, log, (guest, list(ring))), False)

    def test_all_small_values(self):
        answers = set()
        for gifts, log, account in some_logs(145, 40, 0.6) + [(G, TWISTED, account_of(G, TWISTED)[1])]:
            for guest in account.held:
                for count in range(4):
                    for ring in itertools.product(gifts[:4], repeat=count):
                        pairs = list(zip(ring, ring[1:] + ring[:1]))
                        expected = count > 1 and len(set(ring)) == count and all(
                            pair in account.shown[guest] for pair in pairs)
                        self.assertIs(is_contradiction(gifts, log, (guest, list(ring))), expected)
                        answers.add((count, expected))
        self.assertTrue({(2, True), (3, True), (2, False), (3, False)} <= answers)

    def test_checker_by_hand(self):
        for value in (("ann", ["ball", "kite"]), ("ann", ["kite", "ball"]), ("ann", ["ball", "kite", "lamp"]),
                      ("ann", ["lamp", "kite", "ball"])):
            self.assertIs(is_contradiction(G, TWISTED, value), True)
            self.assertIs(is_contradiction(value=value, log=as_lists(TWISTED), gifts=tuple(G)), True)
        # Of any guest, not only of the first one.
        log = TWISTED + [("arrive", "bob", [("bob", "lamp", None)]), ("turn", "bob", [("bob", "kite", None)])]
        self.assertIs(is_contradiction(G, log, ("bob", ["lamp", "kite"])), True)
        self.assertIs(is_contradiction(G, log, ("bob", ["lamp", "ball"])), False)

    def test_values_of_every_kind(self):
        ring = ["ball", "kite"]
        values = any_values() + [
            ["ann", ring], ("ann", tuple(ring)), ("ann", ring, None), ("ann",), (ring, "ann"), ("eve", ring), ("ball", ring),
            (None, ring), (["ann"], ring), (("ann",), ring), ({"ann": 1}, ring), ("ann", []), ("ann", ["ball"]),
            ("ann", ring + ring), ("ann", ring + ["ball"]), ("ann", ring + ["vase"]), ("ann", ring + [None]), ("ann", [ring]),
            ("ann", ["ball", ["kite"]]), ("ann", ["ball", True]), ("ann", {"ball": "kite"}), ("ann", "ball"), ("ann", None),
            ("ann", ["ball", ("kite",)]), ("ann", ["ball", {}]), (True, ring), ("ann", ["lamp", "lamp"]), {"ann": ring}]
        for log in (TWISTED, L, []):
            for value in values:
                with self.subTest(value=value):
                    before = repr(value)
                    self.assertIs(is_contradiction(G, log, value), False)
                    self.assertEqual(repr(value), before)
        for value in any_values():
            self.assertIs(is_contradiction(G, TWISTED, ("ann", value)), False)
            self.assertIs(is_contradiction(G, TWISTED, ("ann", ["ball", value])), False)
            self.assertIs(is_contradiction(G, TWISTED, (value, ring)), False)

    def test_new_results_and_unmodified(self):
        gifts, log = list(G), copy.deepcopy(TWISTED)
        contradiction(gifts, log)[1].clear()
        self.assertEqual(len(contradiction(log=log, gifts=gifts)[1]) > 1, True)
        self.assertEqual((gifts, log), (G, TWISTED))

    def test_wrong_arguments(self):
        check_log_errors(self, contradiction)
        check_log_errors(self, is_contradiction, ("ann", ["ball", "kite"]), value=None)


class CertainTest(unittest.TestCase):
    def test_examples_of_the_document(self):
        self.assertIs(certain(G, L, "bob", "lamp", "kite"), False)
        self.assertEqual(reason(G, L, "bob", "kite", "ball"), ["kite", "ball"])

    def test_by_hand(self):
        self.assertIs(certain(G, L, "bob", "kite", "lamp"), True)
        self.assertIs(certain(G, L, "bob", "ball", "lamp"), None)
        for function in (certain, reason):
            for gift in G:
                self.assertIs(function(G, L, "bob", gift, gift), None)
            self.assertIs(function(G, L, "bob", "lamp", "ball"), None)
        self.assertIs(reason(G, L, "bob", "lamp", "kite"), None)
        # The ball is better than the kite, and the kite than the lamp, but nothing shows the two ends side by side.
        log = [("arrive", "ann", [("ann", "ball", None)]), ("arrive", "bob", [("bob", "ball", "ann"), ("ann", "kite", None)])]
        self.assertTrue(same_kind(reason(G, log, "ann", "kite", "lamp"), ["kite", "lamp"]))
        self.assertEqual(reason(other="lamp", one="ball", guest="ann", log=log, gifts=G)[0], "ball")

    def test_against_all_rankings(self):
        lengths = set()
        for gifts, log, account in some_logs(146, 120, 0.0) + some_logs(147, 250, 0.25) + [(OFFERED_GIFTS, OFFERED,
                                                                                           account_of(OFFERED_GIFTS, OFFERED)[1])]:
            for guest in account.held:
                pairs = account.shown[guest]
                if is_twisted(pairs) or len(gifts) > 5:
                    continue
                possible = [ranking for ranking in itertools.permutations(gifts)
                            if all(ranking.index(one) < ranking.index(other) for one, other in pairs)]
                for one, other in itertools.product(gifts, repeat=2):
                    answers = {ranking.index(one) < ranking.index(other) for ranking in possible}
                    expected = answers.pop() if len(answers) == 1 and one != other else None
                    self.assertIs(certain(gifts, log, guest, one, other), expected)
                    found = reason(gifts, log, guest, one, other)
                    if expected is not True:
                        self.assertIs(found, None)
                        continue
                    self.assertIs(type(found), list)
                    self.assertEqual((found[0], found[-1]), (one, other))
                    self.assertEqual(len(set(found)), len(found))
                    self.assertTrue(all(pair in pairs for pair in zip(found, found[1:])))
                    lengths.add(len(found))
        self.assertIn(2, lengths)

    def test_reasons_of_several_steps(self):
        self.assertNotIn(("rug", "hat"), [pair[:2] for pair in comparisons(OFFERED_GIFTS, STEPS, "ann")])
        self.assertIs(certain(OFFERED_GIFTS, STEPS, "ann", "rug", "hat"), True)
        self.assertIs(certain(OFFERED_GIFTS, STEPS, "ann", "hat", "rug"), False)
        self.assertTrue(same_kind(reason(OFFERED_GIFTS, STEPS, "ann", "rug", "hat"), ["rug", "cup", "hat"]))
        self.assertIs(certain(OFFERED_GIFTS, STEPS, "ann", "hat", "map"), None)

    def test_eight_gifts(self):
        rng = seeded(148)
        for _ in range(12):
            gifts, log, _ = random_log(rng, rng.randrange(6, 9), rng.randrange(5, 8), 30)
            _, account = account_of(gifts, log)
            for guest in account.held:
                pairs = account.shown[guest]
                known = closure(pairs)
                for one, other in itertools.permutations(gifts, 2):
                    expected = True if (one, other) in known else False if (other, one) in known else None
                    self.assertIs(certain(gifts, log, guest, one, other), expected)
                    if expected:
                        found = reason(gifts, log, guest, one, other)
                        self.assertTrue(all(pair in pairs for pair in zip(found, found[1:])))
                        self.assertEqual((found[0], found[-1], len(set(found))), (one, other, len(found)))

    def test_contradictory_guests(self):
        log = TWISTED + [("arrive", "bob", [("bob", "lamp", None)])]
        for function in (certain, reason):
            for one, other in itertools.product(G, repeat=2):
                self.assertEqual(raised(self, Contradictory, function, G, log, "ann", one, other).guest, "ann")
                self.assertEqual(raised(self, Contradictory, function, G, as_lists(log), guest="ann", one=one,
                                        other=other).guest, "ann")
            self.assertIs(certain(G, log, "bob", "lamp", "kite"), True)

    def test_gifts_of_every_kind(self):
        values = [value for value in any_values() + ["vase", "ann", ["kite"], ("kite",), {"kite": 1}, "kite "]]
        for function in (certain, reason):
            for value in values:
                with self.subTest(value=value):
                    for log in (L, TWISTED):
                        for one, other in ((value, "kite"), ("kite", value), (value, None), (value, []), (value, value)):
                            error = raised(self, UnknownGift, function, G, log, "ann", one, other)
                            self.assertTrue(same_kind(error.gift, value))
                    error = raised(self, UnknownGift, function, other=value, one="kite", guest="ann", log=L, gifts=G)
                    self.assertTrue(same_kind(error.gift, value))

    def test_new_lists_and_unmodified(self):
        gifts, log = list(G), copy.deepcopy(L)
        reason(gifts, log, "bob", "kite", "ball").clear()
        self.assertEqual(reason(gifts, log, "bob", "kite", "ball"), ["kite", "ball"])
        self.assertEqual((gifts, log), (G, L))

    def test_wrong_arguments(self):
        for function in (certain, reason):
            check_log_errors(self, function, "ann", "kite", "ball", guest=0, one=0, other=0)
            check_guests(self, function, "kite", "ball", one=None, other=[])


class FileTest(unittest.TestCase):
    def test_defined_where_the_interface_lists_them(self):
        for function in (comparisons, contradiction, is_contradiction, certain, reason):
            self.assertEqual(function.__module__, module.__name__)
