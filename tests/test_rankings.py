"""Point 58: the possible rankings of the guests of a log, and which rankings explain it."""

import copy
import itertools
import math
import unittest

from helpers import MANY_GIFTS, MANY_GUESTS, any_values, raised, same_kind, seeded
from lastturn import rankings as module
from lastturn.errors import Contradictory, InvalidRanking, OutOfRange, TooLarge
from lastturn.logs import check_log
from lastturn.parties import Party
from lastturn.rankings import count_rankings, explains, next_takes, ranking_at, ranking_number
from lastturn.rounds import arrive, turn
from lastturn.wishes import Wishes
from logbook import (G, L, OFFERED, OFFERED_GIFTS, STEPS, TWISTED, account_of, as_lists, changed, check_guests,
                     check_log_errors, closure, is_twisted, random_log, some_logs)


def possible(gifts, pairs):
    """Return all rankings that agree with the pairs (better, worse), in ascending order."""
    return [ranking for ranking in itertools.permutations(gifts)
            if all(ranking.index(one) < ranking.index(other) for one, other in pairs)]


def log_of(gifts, log, rankings):
    """Return the log of the same arrivals and turns, carried out with these rankings."""
    party = Party(Wishes(gifts, {}), ())
    events = []
    for kind, guest, _ in log:
        party, takes = arrive(party, guest, rankings[guest]) if kind == "arrive" else turn(party, guest)
        events.append((kind, guest, takes))
    return events


def few_gifts(count):
    """Return gifts and a log of one guest who took the third of them."""
    gifts = MANY_GIFTS[:count]
    return gifts, [("arrive", "ann", [("ann", gifts[2], None)])]


LOGS = [(G, L), (G, TWISTED), (OFFERED_GIFTS, OFFERED), (OFFERED_GIFTS, STEPS), ([], []), (["kite"], [])]


def all_logs():
    """Return gifts, logs and Accounts: those of the tests, and some by chance."""
    found = some_logs(151, 120, 0.0) + some_logs(152, 120, 0.3)
    return [(gifts, log, account_of(gifts, log)[1]) for gifts, log in LOGS] + [item for item in found if len(item[0]) < 6]


def check_gift_limit(case, function, *others):
    """Check that more than ten gifts are too many, before the errors of the comparisons."""
    for count in (11, 16):
        gifts, log = few_gifts(count)
        for rest in (others, (None,) * len(others), (-1,) * len(others), (tuple(gifts),) * len(others)):
            for whole in (log, log + [("turn", "ann", [("ann", gifts[0], None)])]):
                case.assertEqual(raised(case, TooLarge, function, gifts, whole, "ann", *rest).limit, 10)


class CountRankingsTest(unittest.TestCase):
    def test_example_of_the_document(self):
        self.assertTrue(same_kind(count_rankings(G, L, "bob"), 2))

    def test_by_hand(self):
        self.assertEqual([count_rankings(G, L, guest) for guest in ("ann", "bob", "cy")], [1, 2, 2])
        self.assertTrue(same_kind(count_rankings([], [("arrive", "ann", [("ann", None, None)])], "ann"), 1))
        self.assertEqual(count_rankings(["kite"], [("arrive", "ann", [("ann", "kite", None)])], "ann"), 1)
        for many in (2, 3, 4):
            self.assertTrue(same_kind(count_rankings(G, TWISTED[:many], "ann"), 0))

    def test_against_all_rankings(self):
        for gifts, log, account in all_logs():
            for guest in account.held:
                expected = len(possible(gifts, account.shown[guest]))
                self.assertEqual(count_rankings(gifts, log, guest), expected)
                self.assertEqual(count_rankings(guest=guest, log=as_lists(log), gifts=tuple(gifts)), expected)
                self.assertIs(expected == 0, is_twisted(account.shown[guest]))

    def test_ten_gifts(self):
        gifts, log = few_gifts(10)
        self.assertEqual(count_rankings(gifts, log, "ann"), math.factorial(9))
        log = log + [("arrive", "bob", [("bob", gifts[2], "ann"), ("ann", gifts[5], None)])]
        self.assertEqual(count_rankings(gifts, log, "ann"), math.factorial(8))

    def test_wrong_arguments(self):
        check_log_errors(self, count_rankings, "ann", guest="ann")
        check_guests(self, count_rankings)
        check_gift_limit(self, count_rankings)


class NumbersTest(unittest.TestCase):
    def test_examples_of_the_document(self):
        self.assertTrue(same_kind(ranking_at(G, L, "bob", 1), ("kite", "lamp", "ball")))
        self.assertTrue(same_kind(ranking_number(G, L, "bob", ("kite", "ball", "lamp")), 0))

    def test_against_all_rankings(self):
        for gifts, log, account in all_logs():
            for guest in account.held:
                if not is_twisted(account.shown[guest]):
                    rankings = possible(gifts, account.shown[guest])
                    step = max(1, len(rankings) // 6)
                    for number, ranking in list(enumerate(rankings))[::step] + [(len(rankings) - 1, rankings[-1])]:
                        self.assertTrue(same_kind(ranking_at(gifts, log, guest, number), ranking))
                        self.assertTrue(same_kind(ranking_number(gifts, log, guest, ranking), number))
                    for number in (-1, len(rankings), len(rankings) + 5):
                        self.assertEqual(raised(self, OutOfRange, ranking_at, gifts, log, guest, number).number, number)

    def test_no_gifts(self):
        log = [("arrive", "ann", [("ann", None, None)])]
        self.assertTrue(same_kind(ranking_at([], log, "ann", 0), ()))
        self.assertEqual([ranking_number([], log, "ann", ranking) for ranking in ((), [])], [0, 0])
        raised(self, OutOfRange, ranking_at, [], log, "ann", 1)

    def test_ten_gifts(self):
        gifts, log = few_gifts(10)
        rest = gifts[:2] + gifts[3:]
        many = math.factorial(9)
        self.assertEqual(ranking_at(gifts, log, "ann", 0), (gifts[2],) + tuple(rest))
        self.assertEqual(ranking_at(gifts, log, "ann", many - 1), (gifts[2],) + tuple(rest[::-1]))
        for number, ranking in list(enumerate(itertools.islice(itertools.permutations(rest), 2000)))[::97]:
            self.assertEqual(ranking_at(gifts, log, "ann", number), (gifts[2],) + ranking)
        for number in range(5, many, 30011):
            self.assertEqual(ranking_number(gifts, log, "ann", ranking_at(gifts, log, "ann", number)), number)
        self.assertEqual(raised(self, OutOfRange, ranking_at, gifts, log, "ann", many).number, many)

    def test_ten_gifts_and_many_comparisons(self):
        rng = seeded(153)
        for _ in range(6):
            gifts, log, _ = random_log(rng, 10, 6, 40)
            _, account = account_of(gifts, log)
            for guest in account.held:
                count = count_rankings(gifts, log, guest)
                for number in {0, count - 1, rng.randrange(count)}:
                    ranking = ranking_at(gifts, log, guest, number)
                    self.assertTrue(all(ranking.index(one) < ranking.index(other) for one, other in account.shown[guest]))
                    self.assertEqual(ranking_number(gifts, log, guest, ranking), number)
                if count > 1:
                    numbers = sorted(rng.sample(range(count), min(count, 9)))
                    found = [[gifts.index(gift) for gift in ranking_at(gifts, log, guest, number)] for number in numbers]
                    self.assertEqual(found, sorted(found))

    def test_numbers_of_every_kind(self):
        for value in any_values() + [True, False, "0", [0], (1,), -1, 2, 10 ** 60, -(10 ** 60)]:
            if type(value) is not int or value not in (0, 1):
                with self.subTest(value=value):
                    error = raised(self, OutOfRange, ranking_at, G, L, "bob", value)
                    self.assertTrue(same_kind(error.number, value))
                    error = raised(self, OutOfRange, ranking_at, number=value, guest="bob", log=L, gifts=G)
                    self.assertTrue(same_kind(error.number, value))

    def test_rankings_of_every_kind(self):
        values = any_values() + [("ball", "kite", "lamp"), ("lamp", "kite", "ball"), ("kite", "ball"), ("kite", "lamp", "lamp"),
                                 ("kite", "ball", "lamp", "lamp"), ("kite", "ball", "vase"), ("kite", "ball", None), "kite",
                                 ("kite", ["ball"], "lamp"), {"kite": 0, "ball": 1, "lamp": 2}, ("kite", "ball", {}), 0,
                                 ("kite", "ball", True), [("kite", "ball", "lamp")], ["ball", "kite", "lamp"]]
        for value in values:
            with self.subTest(value=value):
                self.assertEqual(raised(self, InvalidRanking, ranking_number, G, L, "bob", value).guest, "bob")
                error = raised(self, InvalidRanking, ranking_number, ranking=value, guest="bob", log=L, gifts=G)
                self.assertEqual(error.guest, "bob")
        self.assertEqual(ranking_number(ranking=["kite", "lamp", "ball"], guest="bob", log=as_lists(L), gifts=tuple(G)), 1)

    def test_contradictory_guests(self):
        for number in (0, 1, -1, True, None, [], "0"):
            self.assertEqual(raised(self, Contradictory, ranking_at, G, TWISTED, "ann", number).guest, "ann")
        for ranking in list(itertools.permutations(G)) + [None, (), 0]:
            self.assertEqual(raised(self, InvalidRanking, ranking_number, G, TWISTED, "ann", ranking).guest, "ann")

    def test_unmodified(self):
        gifts, log, ranking = list(G), copy.deepcopy(L), ["kite", "lamp", "ball"]
        ranking_number(gifts, log, "bob", ranking)
        ranking_at(gifts, log, "bob", 0)
        self.assertEqual((gifts, log, ranking), (G, L, ["kite", "lamp", "ball"]))

    def test_wrong_arguments(self):
        check_log_errors(self, ranking_at, "ann", 0, guest="ann", number=None)
        check_log_errors(self, ranking_number, "ann", G, guest="ann", ranking=None)
        check_guests(self, ranking_at, 0, number=[])
        check_guests(self, ranking_number, ["kite", "ball", "lamp"], ranking=None)
        check_gift_limit(self, ranking_at, 0)
        check_gift_limit(self, ranking_number, ())


class NextTakesTest(unittest.TestCase):
    def test_example_of_the_document(self):
        self.assertTrue(same_kind(next_takes(G, L, "bob"), ["kite"]))

    def test_against_turns_with_all_possible_rankings(self):
        for gifts, log, account in all_logs():
            if len(account.held) > 3 or any(is_twisted(pairs) for pairs in account.shown.values()):
                continue
            rankings = {guest: possible(gifts, account.shown[guest]) for guest in account.held}
            for guest in account.held:
                others = {other: found[0] for other, found in rankings.items()}
                takes = {turn(Party(Wishes(gifts, {**others, guest: ranking}), account.row), guest)[1][0][1]
                         for ranking in rankings[guest]}
                expected = [gift for gift in gifts if gift in takes]
                self.assertTrue(same_kind(next_takes(gifts, log, guest), expected))
                self.assertEqual(next_takes(guest=guest, log=as_lists(log), gifts=tuple(gifts)), expected)

    def test_by_hand(self):
        self.assertTrue(same_kind(next_takes([], [("arrive", "ann", [("ann", None, None)])], "ann"), []))
        for count in (3, 10, 11, 16):
            gifts, log = few_gifts(count)
            self.assertEqual(next_takes(gifts, log, "ann"), [gifts[2]])

    def test_new_lists_and_contradictory_guests(self):
        next_takes(G, L, "bob").clear()
        self.assertEqual(next_takes(G, L, "bob"), ["kite"])
        self.assertEqual(raised(self, Contradictory, next_takes, G, TWISTED, "ann").guest, "ann")
        gifts, log = few_gifts(16)
        log = log + [("turn", "ann", [("ann", gifts[0], None)]), ("arrive", "bob", [("bob", gifts[1], None)])]
        self.assertEqual(raised(self, Contradictory, next_takes, guest="ann", log=log, gifts=gifts).guest, "ann")
        self.assertEqual(next_takes(gifts, log, "bob"), [gifts[1]])

    def test_wrong_arguments(self):
        check_log_errors(self, next_takes, "ann", guest="ann")
        check_guests(self, next_takes)


class ExplainsTest(unittest.TestCase):
    RANKINGS = {"ann": ("kite", "ball", "lamp"), "bob": ("kite", "ball", "lamp"), "cy": ("ball", "lamp", "kite")}

    def test_example_of_the_document(self):
        self.assertIs(explains(G, L, self.RANKINGS), True)

    def test_by_hand(self):
        self.assertIs(explains(rankings=dict(reversed(self.RANKINGS.items())), log=as_lists(L), gifts=tuple(G)), True)
        self.assertIs(explains(G, L, {**self.RANKINGS, "ann": ["kite", "lamp", "ball"]}), False)
        self.assertIs(explains(G, L, {**self.RANKINGS, "bob": ["kite", "lamp", "ball"]}), True)
        self.assertIs(explains(G, L, {**self.RANKINGS, "cy": ["lamp", "ball", "kite"]}), False)
        self.assertIs(explains([], [], {}), True)
        self.assertIs(explains([], [("arrive", "ann", [("ann", None, None)])], {"ann": ()}), True)
        for ranking in itertools.permutations(G):
            self.assertIs(explains(G, TWISTED, {"ann": ranking}), False)

    def test_against_arrive_and_turn(self):
        rng = seeded(154)
        answers = {True: 0, False: 0}
        for gifts, log, account in all_logs():
            guests = list(account.held)
            for _ in range(8):
                rankings = {guest: tuple(rng.sample(gifts, len(gifts))) for guest in rng.sample(guests, len(guests))}
                for guest in guests:
                    pairs = account.shown[guest]
                    if rng.random() < 0.8 and not is_twisted(pairs):
                        rankings[guest] = rng.choice(possible(gifts, pairs))
                expected = log_of(gifts, log, rankings) == [tuple(event) for event in log]
                self.assertIs(explains(gifts, log, rankings), expected)
                answers[expected] += 1
        self.assertGreater(min(answers.values()), 100)

    def test_logs_that_rankings_lead_to_are_exactly_the_valid_ones_without_contradiction(self):
        rng = seeded(155)
        counts = {True: 0, False: 0}
        for _ in range(250):
            gifts, log, _ = random_log(rng, rng.randrange(4), rng.randrange(1, 4), rng.randrange(7), 0.2)
            other = changed(rng, gifts, log)
            names = {event[1] for event in other if type(event) is list and len(event) > 1 and type(event[1]) is str}
            try:
                found = any(as_lists(log_of(gifts, other, dict(zip(sorted(names), chosen)))) == other
                            for chosen in itertools.product(itertools.permutations(gifts), repeat=len(names)))
            except (KeyError, ValueError, TypeError):
                # An event has another form, or cannot be carried out.
                found = False
            _, account = account_of(gifts, other)
            possible_for_all = not any(is_twisted(pairs) for pairs in account.shown.values())
            self.assertIs(check_log(gifts, other) is None and possible_for_all, found)
            counts[found] += 1
        self.assertGreater(min(counts.values()), 20)

    def test_values_that_are_no_dicts_of_the_guests(self):
        rest = {"ann": G, "bob": G}
        for value in any_values() + [rest, {**rest, "cy": G, "dan": G}, {**rest, None: G}, {**rest, ("cy",): G}, list("abc"),
                                     {**rest, "dan": G}, ["ann", "bob", "cy"], [G, G, G], {"ann": 0, "bob": 1}, {}]:
            with self.subTest(value=value):
                self.assertIs(raised(self, InvalidRanking, explains, G, L, value).guest, None)
                self.assertIs(raised(self, InvalidRanking, explains, rankings=value, log=L, gifts=G).guest, None)
        for value in any_values() + [{"ann": ()}]:
            if value != {}:
                self.assertIs(raised(self, InvalidRanking, explains, G, [], value).guest, None)

    def test_values_that_are_no_rankings(self):
        for value in any_values() + [G[:2], G + G[:1], ["kite", "ball", "vase"], {"kite": 0, "ball": 1, "lamp": 2}, "kite",
                                     ["kite", ["ball"], "lamp"], ("kite", "ball", True), ["kite", "kite", "ball"]]:
            with self.subTest(value=value):
                for rankings, guest in (({"ann": G, "bob": value, "cy": G}, "bob"), ({"cy": value, "bob": value, "ann": G}, "bob"),
                                        ({"cy": 0, "ann": value, "bob": []}, "ann"), ({"cy": value, "ann": G, "bob": G}, "cy"),
                                        ({"ann": value, "bob": None, "cy": None}, "ann")):
                    before = repr(rankings)
                    self.assertEqual(raised(self, InvalidRanking, explains, G, L, rankings).guest, guest)
                    self.assertEqual(repr(rankings), before)

    def test_order_of_arrival(self):
        log = [("arrive", "zoe", [("zoe", "kite", None)]), ("arrive", "ann", [("ann", "ball", None)])]
        self.assertEqual(raised(self, InvalidRanking, explains, G, log, {"ann": 0, "zoe": 0}).guest, "zoe")

    def test_sixteen_guests_and_gifts(self):
        rng = seeded(156)
        gifts, log, model = random_log(rng, 16, 16, 120)
        rankings = {guest: tuple(ranking) for guest, ranking in model.rankings.items()}
        self.assertIs(explains(gifts, log, rankings), True)
        self.assertEqual(sorted(rankings), sorted(set(rankings) & set(MANY_GUESTS)))
        guest = log[0][1]
        self.assertIs(explains(gifts, log, {**rankings, guest: rankings[guest][::-1]}), False)

    def test_wrong_arguments(self):
        check_log_errors(self, explains, {"ann": G}, rankings=None)


class FileTest(unittest.TestCase):
    def test_defined_where_the_interface_lists_them(self):
        for function in (count_rankings, ranking_at, ranking_number, next_takes, explains):
            self.assertEqual(function.__module__, module.__name__)

    def test_what_follows_from_the_comparisons(self):
        # In all possible rankings `certain` and these rankings agree.
        for ranking in [ranking_at(OFFERED_GIFTS, STEPS, "ann", number)
                        for number in range(count_rankings(OFFERED_GIFTS, STEPS, "ann"))]:
            for one, other in closure(account_of(OFFERED_GIFTS, STEPS)[1].shown["ann"]):
                self.assertLess(ranking.index(one), ranking.index(other))
