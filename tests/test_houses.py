"""Points 50 and 51: the states of full houses, and where repeated turns lead."""

import itertools
import unittest
from unittest import mock

from helpers import any_values, raised, same_kind, seeded
from holdings import all_holdings, all_rows, check_wrong_holdings, turned_over
from lastturn import houses
from lastturn.errors import NotEfficient, UnknownGuest
from lastturn.houses import after_turn, closed_states, lasting, shows_never, state_of, states
from lastturn.parties import Party
from lastturn.rounds import turn
from turning import (A, B, C, NO_STATE, House, by_number, check_houses, check_states, larger_houses, nobody, quarrel,
                     small_houses, trio)


class StatesTest(unittest.TestCase):
    def test_example_of_the_document(self):
        self.assertEqual(states(trio()), [B, A, C])

    def test_by_hand(self):
        self.assertTrue(same_kind(states(nobody()), [()]))
        self.assertEqual(states(quarrel(1)), [("vase",)])
        self.assertEqual(states(quarrel(2)), [("vase", "ball"), ("ball", "vase")])
        gifts = quarrel(5).gifts()
        self.assertEqual(states(quarrel(5)), list(itertools.permutations(gifts)))

    def test_against_all_rows(self):
        for wishes in small_houses() + larger_houses(101, 8):
            self.assertTrue(same_kind(states(wishes), House(wishes).states))

    def test_new_list_and_by_name(self):
        wishes = trio()
        states(wishes).clear()
        self.assertEqual(states(wishes=wishes), [B, A, C])
        self.assertEqual(wishes, trio())

    def test_houses_that_are_not_full_or_too_large(self):
        check_houses(self, states)


class StateOfTest(unittest.TestCase):
    def test_example_of_the_document(self):
        self.assertTrue(same_kind(state_of(trio(), {"ann": "kite", "bob": "lamp", "cy": "ball"}), A))

    def test_all_holdings_of_small_houses(self):
        for wishes in small_houses():
            efficient = [holding for _, holding in all_rows(wishes)]
            for holding in all_holdings(wishes):
                if holding in efficient:
                    self.assertTrue(same_kind(state_of(wishes, holding), tuple(holding.values())))
                    self.assertEqual(state_of(wishes, turned_over(holding)), tuple(holding.values()))
                else:
                    raised(self, NotEfficient, state_of, wishes, holding)
                    raised(self, NotEfficient, state_of, holding=turned_over(holding), wishes=wishes)

    def test_five_guests(self):
        for wishes in larger_houses(102, 5) + [quarrel(5)]:
            for _, holding in all_rows(wishes)[::7]:
                self.assertEqual(state_of(holding=holding, wishes=wishes), tuple(holding.values()))

    def test_wrong_holdings(self):
        check_wrong_holdings(self, state_of, trio())
        raised(self, NotEfficient, state_of, trio(), {"ann": "ball", "bob": "kite", "cy": None})
        raised(self, NotEfficient, state_of, trio(), dict.fromkeys(["ann", "bob", "cy"]))

    def test_houses_that_are_not_full_or_too_large(self):
        check_houses(self, state_of, {})


class AfterTurnTest(unittest.TestCase):
    def test_example_of_the_document(self):
        self.assertTrue(same_kind(after_turn(trio(), A, "bob"), B))

    def test_against_all_rounds(self):
        for wishes in small_houses() + larger_houses(103, 6):
            house = House(wishes)
            for (state, guest), after in house.after.items():
                self.assertTrue(same_kind(after_turn(wishes, state, guest), after))

    def test_against_turn(self):
        for wishes in [trio(), quarrel(4)] + larger_houses(104, 4):
            for row, holding in all_rows(wishes)[::5]:
                for guest in wishes.guests():
                    party, takes = turn(Party(wishes, row), guest)
                    self.assertEqual(after_turn(wishes, tuple(holding.values()), guest), tuple(party.holding().values()))
                    self.assertEqual(takes[-1][1:], (holding[guest], None))

    def test_one_guest_and_by_name(self):
        self.assertEqual(after_turn(quarrel(1), ("vase",), "zoe"), ("vase",))
        self.assertEqual(after_turn(guest="bob", state=A, wishes=trio()), B)

    def test_guests_of_every_kind(self):
        for wishes, state in ((trio(), A), (nobody(), ()), (quarrel(1), ("vase",))):
            for value in any_values() + ["kite", "eve", ["ann"], ("ann",), {"ann": "ann"}]:
                if value not in wishes.guests():
                    error = raised(self, UnknownGuest, after_turn, wishes, state, value)
                    self.assertTrue(same_kind(error.guest, value))
                    error = raised(self, UnknownGuest, after_turn, state=state, guest=value, wishes=wishes)
                    self.assertTrue(same_kind(error.guest, value))

    def test_wrong_states(self):
        check_states(self, after_turn, ["state"], "ann")
        check_states(self, after_turn, ["state"], ["nobody"])

    def test_houses_that_are_not_full_or_too_large(self):
        check_houses(self, after_turn, A, "ann")


class ClosedStatesTest(unittest.TestCase):
    def test_example_of_the_document(self):
        self.assertEqual(closed_states(trio(), A), [B, A])

    def test_by_hand(self):
        self.assertEqual(closed_states(trio(), C), [B, A, C])
        self.assertEqual(closed_states(trio(), B), [B, A])
        self.assertTrue(same_kind(closed_states(nobody(), ()), [()]))
        self.assertEqual(closed_states(quarrel(1), ("vase",)), [("vase",)])
        self.assertEqual(closed_states(quarrel(2), ("vase", "ball")), [("vase", "ball"), ("ball", "vase")])

    def test_against_all_rounds(self):
        for wishes in small_houses() + larger_houses(105, 4):
            house = House(wishes)
            for state in house.states[::max(1, len(house.states) // 8)]:
                self.assertTrue(same_kind(closed_states(wishes, state), by_number(wishes, house.reached(state))))

    def test_new_list_and_by_name(self):
        wishes = trio()
        closed_states(wishes, A).clear()
        self.assertEqual(closed_states(state=A, wishes=wishes), [B, A])
        self.assertEqual(wishes, trio())

    def test_wrong_states(self):
        check_states(self, closed_states, ["state"])

    def test_houses_that_are_not_full_or_too_large(self):
        check_houses(self, closed_states, A)


def shows(house, start, goal, value):
    """Return whether the value is a closed set with `start` and without `goal`, from all rounds."""
    if len(set(value)) < len(value) or not set(value) <= set(house.states) or start not in value or goal in value:
        return False
    return all(house.after[state, guest] in value for state in value for guest in house.guests)


class ShowsNeverTest(unittest.TestCase):
    def test_example_of_the_document(self):
        self.assertIs(shows_never(trio(), A, C, [A, B]), True)

    def test_by_hand(self):
        for value in ([A, B], [B, A], (A, B), (B, A)):
            for start in (A, B):
                self.assertIs(shows_never(trio(), start, C, value), True)
                self.assertIs(shows_never(trio(), C, start, value), False)
        for value in ([A], [B], [], (), [A, B, C], [A, B, A], [A, A, B, B], [A, C], [B, C]):
            for start, goal in itertools.product((A, B, C), repeat=2):
                self.assertIs(shows_never(trio(), start, goal, value), False)
        for state, value in itertools.product((A, B, C), ([A, B], [A, B, C], [A], [])):
            self.assertIs(shows_never(trio(), state, state, value), False)

    def test_all_sets_of_small_houses(self):
        for wishes in small_houses()[::3] + [trio()]:
            house = House(wishes)
            for count in range(len(house.states) + 1):
                for value in itertools.islice(itertools.combinations(house.states, count), 12):
                    for start, goal in itertools.product(house.states, repeat=2):
                        expected = shows(house, start, goal, value)
                        self.assertIs(shows_never(wishes, start, goal, list(value)), expected)
                        self.assertIs(shows_never(value=value[::-1], goal=goal, start=start, wishes=wishes), expected)

    def test_there_is_such_a_value_exactly_if_the_start_does_not_lead_to_the_goal(self):
        rng = seeded(106)
        for wishes in larger_houses(107, 4) + small_houses()[::4]:
            house = House(wishes)
            for _ in range(12):
                start, goal = rng.choice(house.states), rng.choice(house.states)
                value = closed_states(wishes, start)
                self.assertIs(shows_never(wishes, start, goal, value), goal not in house.reached(start))
                for changed in (value[1:], value[:-1], value + value[:1], value + [NO_STATE], value + [goal]):
                    self.assertIs(shows_never(wishes, start, goal, changed), shows(house, start, goal, changed))

    def test_values_of_every_kind(self):
        values = any_values() + [A, "ann", {A: True, B: True}, [list(A), B], [A, list(B)], [A, B, list(A)], [[A, B]], ([A, B],),
                                 [A, B, NO_STATE], [A, B, None], (A, B, True), [A, B, ()], [A, B, A[:2]], [A, B, {}],
                                 [A, B, A + ("kite",)], [A, B, ("kite", "lamp", ["ball"])], ((A, B),), [A, B, []],
                                 [A, B, ("kite", "lamp", True)], [A, B, ("ann", "bob", "cy")], [A, B, "kite lamp ball"]]
        for value in values:
            with self.subTest(value=value):
                before = repr(value)
                self.assertIs(shows_never(trio(), A, C, value), False)
                self.assertIs(shows_never(nobody(), (), (), value), False)
                self.assertIs(shows_never(wishes=trio(), start=B, goal=C, value=value), False)
                self.assertEqual(repr(value), before)

    def test_wrong_states(self):
        check_states(self, shows_never, ["start", "goal"], [A, B])

    def test_houses_that_are_not_full_or_too_large(self):
        check_houses(self, shows_never, A, C, [A, B])


class LastingTest(unittest.TestCase):
    def test_example_of_the_document(self):
        self.assertEqual(lasting(trio()), [[B, A]])

    def test_by_hand(self):
        self.assertTrue(same_kind(lasting(nobody()), [[()]]))
        self.assertEqual(lasting(quarrel(1)), [[("vase",)]])
        self.assertEqual(lasting(quarrel(2)), [[("vase", "ball"), ("ball", "vase")]])
        self.assertEqual(lasting(quarrel(4)), [states(quarrel(4))])

    def test_against_all_rounds(self):
        for wishes in small_houses() + larger_houses(108, 3):
            self.assertTrue(same_kind(lasting(wishes), House(wishes).lasting()))

    def test_several_sets(self):
        # No full house of up to four guests has more than one such set, so these turns are made up.
        tables = {
            ((0,), (1,), (2,)): [[B], [A], [C]],
            ((1,), (0,), (2,)): [[B, A], [C]],
            ((0,), (2,), (1,)): [[B], [A, C]],
            ((0, 1), (1, 1), (2, 0)): [[A]],
            ((0, 2), (1, 0), (2, 0)): [[B, C]],
            ((1, 1), (2, 2), (0, 0)): [[B, A, C]],
            ((1, 1), (2, 2), (2, 2)): [[C]],
            ((0, 0), (0, 2), (2, 2)): [[B], [C]],
        }
        for table, expected in tables.items():
            with mock.patch.object(houses, "turn_table", lambda wishes, known, table=table: [list(row) for row in table]):
                self.assertEqual(lasting(trio()), expected)

    def test_new_lists_and_by_name(self):
        wishes = trio()
        lasting(wishes)[0].clear()
        self.assertEqual(lasting(wishes=wishes), [[B, A]])
        self.assertEqual(wishes, trio())

    def test_houses_that_are_not_full_or_too_large(self):
        check_houses(self, lasting)


class FileTest(unittest.TestCase):
    def test_defined_where_the_interface_lists_them(self):
        for function in (states, state_of, after_turn, closed_states, shows_never, lasting):
            self.assertEqual(function.__module__, houses.__name__)
