"""Points 52 and 53: words of turns in full houses."""

import itertools
import unittest
from unittest import mock

from helpers import any_values, raised, same_kind, seeded
from lastturn import words
from lastturn.errors import InvalidWord, OutOfRange
from lastturn.houses import after_turn, states
from lastturn.words import (after_word, count_words, cycle_of, is_reset, merging_word, reset_word, shortest_word,
                            stuck_pairs)
from turning import (A, B, C, House, check_houses, check_states, larger_houses, nobody, quarrel, small_houses, swinging,
                     trio)

HUGE = 10 ** 60


def no_words(wishes):
    """Return values that are no words of at most sixty turns of these guests."""
    return any_values() + [["eve"], ("ann", "kite"), "bob", ["ann", None], ["ann", ["bob"]], (("ann",),), {"ann": 1}, ["ann "],
                           ["ann", True], ["ann"] * 61, ("bob",) * 61, ("ann", "bob", "cy") * 30, [0] * 60, ["ann", {}],
                           ("ann",) * 59 + ("eve",), tuple(wishes.gifts())]


def check_words(case, function, *others):
    """Check that the function raises InvalidWord for every value that is no word, whatever else it is passed."""
    for value in no_words(trio()):
        if not isinstance(value, (list, tuple)) or len(value) > 60 or not all(item in ("ann", "bob", "cy") for item in value):
            with case.subTest(value=value):
                raised(case, InvalidWord, function, trio(), A, value, *others)
                raised(case, InvalidWord, function, word=value, state=A, wishes=trio())
    for value in (("ann",), ["zoe", "ann"]):
        raised(case, InvalidWord, function, nobody(), (), value, *others)


def check_numbers(case, function, most, *before):
    """Check that the function raises OutOfRange for all that is no integer from 0 to `most`."""
    values = any_values() + [-1, most + 1, True, False, str(most), [1], (0,), 10 ** 61, -most, {0: 1}]
    for value in values:
        if type(value) is not int or not 0 <= value <= most:
            with case.subTest(value=value):
                error = raised(case, OutOfRange, function, trio(), A, *before, value)
                case.assertTrue(same_kind(error.number, value))


class AfterWordTest(unittest.TestCase):
    def test_example_of_the_document(self):
        self.assertTrue(same_kind(after_word(trio(), C, ("ann", "bob"), 10 ** 60), B))

    def test_all_short_words(self):
        for wishes in small_houses()[::2] + larger_houses(111, 1):
            house = House(wishes)
            for state in house.states[::max(1, len(house.states) // 4)]:
                for word in house.words(3):
                    self.assertTrue(same_kind(after_word(wishes, state, word), house.carried(state, word)))
                    self.assertEqual(after_word(wishes, state, list(word), 3), house.carried(state, word * 3))
                    self.assertEqual(after_word(wishes, state, word, 0), state)

    def test_long_words_and_many_times(self):
        rng = seeded(112)
        for wishes in larger_houses(113, 3) + [quarrel(5)]:
            house = House(wishes)
            for length in (1, 2, 3, 7, 20, 60):
                word = tuple(rng.choice(house.guests) for _ in range(length))
                state = rng.choice(house.states)
                seen = [state]
                while len(seen) < 300:
                    seen.append(house.carried(seen[-1], word))
                for times in list(range(12)) + [59, 119, 120, 121, 299]:
                    self.assertEqual(after_word(wishes, state, word, times), seen[times])
                # After 120 repetitions the states go round.
                period = seen[121:].index(seen[120]) + 1
                for times in (HUGE, HUGE - 1, HUGE - 7, 10 ** 59 + 11, 12345678901234567890):
                    self.assertEqual(after_word(wishes, state, word, times), seen[120 + (times - 120) % period])

    def test_no_turns_and_no_guests(self):
        for times in (0, 1, 2, HUGE):
            for state in (A, B, C):
                self.assertEqual(after_word(trio(), state, (), times), state)
                self.assertEqual(after_word(trio(), state, [], times=times), state)
            self.assertEqual(after_word(nobody(), (), (), times), ())
            self.assertEqual(after_word(quarrel(1), ("vase",), ("zoe",) * 60, times), ("vase",))

    def test_by_name_and_unmodified(self):
        word = ["ann", "bob"]
        self.assertEqual(after_word(times=2, word=word, state=C, wishes=trio()), B)
        self.assertEqual(after_word(word=word, state=A, wishes=trio()), after_word(trio(), A, word, 1))
        self.assertEqual(after_word(trio(), C, ["bob"]), after_turn(trio(), C, "bob"))
        self.assertEqual(word, ["ann", "bob"])

    def test_wrong_arguments(self):
        check_houses(self, after_word, A, ("ann",), 1)
        check_houses(self, after_word, A, ("ann",))
        check_states(self, after_word, ["state"], ("ann",), 1)
        check_words(self, after_word, 1)
        check_words(self, after_word, -1)
        check_words(self, after_word, "many")
        check_numbers(self, after_word, HUGE, ("ann",))
        check_numbers(self, after_word, HUGE, [])
        self.assertEqual(raised(self, OutOfRange, after_word, trio(), A, (), times=HUGE + 1).number, HUGE + 1)
        self.assertEqual(after_word(trio(), C, ("ann",) * 60, HUGE), A)


class CycleOfTest(unittest.TestCase):
    def test_example_of_the_document(self):
        self.assertTrue(same_kind(cycle_of(trio(), C, ["ann", "bob"]), (1, 1)))

    def test_against_all_rounds(self):
        rng = seeded(114)
        for wishes in small_houses()[::2] + larger_houses(115, 4) + [quarrel(3), quarrel(5)]:
            house = House(wishes)
            for length in (0, 1, 2, 3, 4, 9, 60):
                word = tuple(rng.choice(house.guests) for _ in range(length)) if house.guests else ()
                state = rng.choice(house.states)
                found = cycle_of(wishes, state, word)
                seen = [state]
                for _ in range(250):
                    seen.append(house.carried(seen[-1], word))
                expected = next((start, length) for start in range(125) for length in range(1, 122)
                                if seen[start] == seen[start + length])
                self.assertTrue(same_kind(found, expected))

    def test_by_hand(self):
        self.assertEqual(cycle_of(nobody(), (), ()), (0, 1))
        self.assertEqual(cycle_of(trio(), C, []), (0, 1))
        self.assertEqual(cycle_of(word=("bob",), state=C, wishes=trio())[1], 1)
        # Two guests with one ranking take the better gift from each other.
        self.assertEqual(cycle_of(quarrel(2), ("ball", "vase"), ("ann", "zoe")), (0, 1))
        self.assertEqual(cycle_of(quarrel(2), ("vase", "ball"), ("ann", "zoe")), (1, 1))

    def test_cycles_of_several_states(self):
        for wishes, state, word, cycle in swinging():
            self.assertTrue(same_kind(cycle_of(wishes, state, word), cycle))
            house = House(wishes)
            seen = [state]
            while len(seen) < 40:
                seen.append(house.carried(seen[-1], word))
            start, length = cycle
            self.assertEqual(len(set(seen)), start + length)
            self.assertEqual(seen[start], seen[start + length])
            for times in range(40):
                self.assertEqual(after_word(wishes, state, word, times), seen[times])
            for times in (HUGE, HUGE - 1, HUGE - 2, HUGE - 3, 10 ** 59 + 5):
                self.assertEqual(after_word(wishes, state, list(word), times), seen[start + (times - start) % length])

    def test_wrong_arguments(self):
        check_houses(self, cycle_of, A, ("ann",))
        check_states(self, cycle_of, ["state"], ("ann",))
        check_words(self, cycle_of)


class ShortestWordTest(unittest.TestCase):
    def test_example_of_the_document(self):
        self.assertTrue(same_kind(shortest_word(trio(), C, B), ("ann", "bob")))

    def test_all_short_words(self):
        for wishes in small_houses() + larger_houses(116, 1):
            house = House(wishes)
            least = {}
            for state in house.states[::max(1, len(house.states) // 5)]:
                for word in house.words(6 if len(house.guests) < 4 else 4):
                    least.setdefault((state, house.carried(state, word)), word)
            for start, goal in itertools.product(house.states[::max(1, len(house.states) // 5)], house.states):
                found = shortest_word(wishes, start, goal)
                if (start, goal) in least:
                    self.assertTrue(same_kind(found, least[start, goal]))
                elif found is not None:
                    self.assertGreater(len(found), 4)
                    self.assertEqual(house.carried(start, found), goal)
                self.assertIs(found is None, goal not in house.reached(start))

    def test_by_hand(self):
        for state in (A, B, C):
            self.assertTrue(same_kind(shortest_word(trio(), state, state), ()))
        self.assertIs(shortest_word(trio(), A, C), None)
        self.assertEqual(shortest_word(nobody(), (), ()), ())
        self.assertEqual(shortest_word(goal=("ball", "vase"), start=("vase", "ball"), wishes=quarrel(2)), ("zoe",))

    def test_wrong_arguments(self):
        check_houses(self, shortest_word, A, B)
        check_states(self, shortest_word, ["start", "goal"])


class CountWordsTest(unittest.TestCase):
    def test_example_of_the_document(self):
        self.assertTrue(same_kind(count_words(trio(), A, A, 2), 6))

    def test_all_short_words(self):
        for wishes in small_houses()[::2] + larger_houses(117, 1):
            house = House(wishes)
            start = house.states[-1]
            for turns in range(5):
                counts = dict.fromkeys(house.states, 0)
                for word in itertools.product(house.guests, repeat=turns):
                    counts[house.carried(start, word)] += 1
                for goal in house.states[::max(1, len(house.states) // 9)] + [start]:
                    self.assertTrue(same_kind(count_words(wishes, start, goal, turns), counts[goal]))

    def test_many_turns(self):
        for wishes in [trio(), quarrel(5)] + larger_houses(118, 2):
            house = House(wishes)
            counts = {house.states[0]: 1}
            for _ in range(200):
                after = {}
                for state, count in counts.items():
                    for guest in house.guests:
                        other = house.after[state, guest]
                        after[other] = after.get(other, 0) + count
                counts = after
            self.assertEqual(sum(counts.values()), len(house.guests) ** 200)
            for goal in house.states[::17]:
                self.assertEqual(count_words(wishes, house.states[0], goal, 200), counts.get(goal, 0))

    def test_by_hand_and_by_name(self):
        self.assertEqual([count_words(nobody(), (), (), turns) for turns in (0, 1, 2, 200)], [1, 0, 0, 0])
        self.assertEqual(count_words(quarrel(1), ("vase",), ("vase",), 200), 1)
        self.assertEqual(count_words(turns=0, goal=A, start=A, wishes=trio()), 1)
        self.assertEqual(count_words(turns=0, goal=B, start=A, wishes=trio()), 0)
        self.assertEqual(count_words(trio(), A, C, 5), 0)

    def test_wrong_arguments(self):
        check_houses(self, count_words, A, B, 1)
        check_states(self, count_words, ["start", "goal"], 1)
        check_states(self, count_words, ["start", "goal"], True)
        check_numbers(self, count_words, 200, B)
        self.assertEqual(raised(self, OutOfRange, count_words, wishes=trio(), start=A, goal=B, turns=201).number, 201)


class MergingWordTest(unittest.TestCase):
    def test_example_of_the_document(self):
        self.assertTrue(same_kind(merging_word(trio(), A, B), ("ann",)))

    def test_all_short_words(self):
        longest = 0
        for wishes in small_houses() + larger_houses(119, 2) + [quarrel(3), quarrel(4)]:
            house = House(wishes)
            pairs = list(itertools.product(house.states[::max(1, len(house.states) // 4)], house.states))
            for one, other in pairs[::max(1, len(pairs) // 30)]:
                found = merging_word(wishes, one, other)
                # No house is stuck, and the words are tried from the shortest one on.
                expected = next(word for word in house.words(6) if house.carried(one, word) == house.carried(other, word))
                self.assertTrue(same_kind(found, expected))
                self.assertEqual(merging_word(other=one, one=other, wishes=wishes), expected)
                longest = max(longest, len(expected))
        self.assertGreater(longest, 1)

    def test_equal_states(self):
        for state in (A, B, C):
            self.assertTrue(same_kind(merging_word(trio(), state, state), ()))
        self.assertEqual(merging_word(nobody(), (), ()), ())

    def test_wrong_arguments(self):
        check_houses(self, merging_word, A, B)
        check_states(self, merging_word, ["one", "other"])


class MadeUpTurns:
    """Turns of three guests that change these states into each other, whatever the guests like."""

    AFTER = {A: [A, B, A], B: [B, A, B], C: [C, C, A]}

    def __init__(self, wishes):
        self.wishes = wishes

    def after(self, state):
        return list(self.AFTER[state])


def made_up(table):
    """Return what takes the place of `turn_table`: B, A and C are the numbers 0, 1 and 2."""
    return mock.patch.object(words, "turn_table", lambda wishes, known: [list(row) for row in table])


class StuckPairsTest(unittest.TestCase):
    def test_example_of_the_document(self):
        self.assertTrue(same_kind(stuck_pairs(trio()), []))

    def test_against_all_rounds(self):
        for wishes in small_houses() + larger_houses(120, 2) + [quarrel(4), quarrel(5)]:
            merged, everything = House(wishes).pairs()
            self.assertEqual([frozenset(pair) for pair in stuck_pairs(wishes)], sorted(everything - merged, key=sorted))

    def test_small_houses_by_name(self):
        for wishes in (nobody(), quarrel(1), quarrel(2)):
            self.assertEqual(stuck_pairs(wishes=wishes), [])

    def test_stuck_states(self):
        # No full house of up to four guests has a stuck pair, so these turns are made up.
        tables = {
            ((0,), (1,), (2,)): [(B, A), (B, C), (A, C)],
            ((1,), (0,), (2,)): [(B, A), (B, C), (A, C)],
            ((0,), (0,), (2,)): [(B, C), (A, C)],
            ((0,), (1,), (1,)): [(B, A), (B, C)],
            ((0, 1), (1, 0), (2, 1)): [(B, A), (A, C)],
            ((1, 1), (2, 2), (2, 2)): [],
            ((0, 1), (0, 2), (1, 2)): [],
        }
        for table, expected in tables.items():
            with made_up(table):
                self.assertTrue(same_kind(stuck_pairs(trio()), expected))

    def test_wrong_arguments(self):
        check_houses(self, stuck_pairs)


class ResetWordTest(unittest.TestCase):
    def test_example_of_the_document(self):
        self.assertIs(is_reset(trio(), reset_word(trio())), True)

    def test_against_all_rounds(self):
        for wishes in small_houses() + larger_houses(121, 6) + [quarrel(size) for size in (1, 2, 3, 4, 5)]:
            house = House(wishes)
            word = reset_word(wishes)
            self.assertIs(type(word), tuple)
            self.assertTrue(set(word) <= set(house.guests))
            self.assertEqual(len({house.carried(state, word) for state in house.states}), 1)

    def test_one_state(self):
        for wishes in (nobody(), quarrel(1)):
            self.assertTrue(same_kind(reset_word(wishes), ()))
        self.assertEqual(reset_word(wishes=trio()), reset_word(trio()))

    def test_stuck_states(self):
        with mock.patch.object(words, "Turns", MadeUpTurns):
            self.assertIs(reset_word(trio()), None)
            self.assertIs(merging_word(trio(), A, B), None)
            self.assertEqual(merging_word(trio(), B, C), ("bob", "cy"))
            self.assertEqual(merging_word(trio(), A, C), ("cy",))
            for word in ((), ("ann",), ("cy", "bob"), ("cy",)):
                self.assertIs(is_reset(trio(), word), False)

    def test_wrong_arguments(self):
        check_houses(self, reset_word)


class IsResetTest(unittest.TestCase):
    def test_examples_of_the_document(self):
        self.assertIs(is_reset(trio(), ("bob",)), False)
        self.assertIs(is_reset(trio(), reset_word(trio())), True)

    def test_all_short_words(self):
        answers = set()
        for wishes in small_houses() + larger_houses(122, 1):
            house = House(wishes)
            for word in house.words(4):
                expected = len({house.carried(state, word) for state in house.states}) == 1
                self.assertIs(is_reset(wishes, word), expected)
                answers.add(expected)
            self.assertIs(is_reset(value=reset_word(wishes) + tuple(house.guests) * 40, wishes=wishes), True)
        self.assertEqual(answers, {True, False})

    def test_one_state(self):
        self.assertIs(is_reset(nobody(), ()), True)
        self.assertIs(is_reset(quarrel(1), ()), True)
        self.assertIs(is_reset(quarrel(1), ("zoe",) * 100), True)
        self.assertIs(is_reset(trio(), ()), False)

    def test_values_of_every_kind(self):
        word = reset_word(trio())
        values = any_values() + [list(word), word + ("eve",), word + (None,), (word,), word + (["ann"],), "ann", {"ann": 1},
                                 word + (("ann",),), word + (True,), word + ({},), word + ("ann ",), tuple(trio().gifts())]
        for value in values:
            if value != ("ann",):
                with self.subTest(value=value):
                    before = repr(value)
                    self.assertIs(is_reset(trio(), value), False)
                    self.assertEqual(repr(value), before)
                    if value != ():
                        self.assertIs(is_reset(nobody(), value), False)
                        self.assertIs(is_reset(value=value, wishes=quarrel(1)), False)

    def test_wrong_arguments(self):
        check_houses(self, is_reset, ("ann",))


class FileTest(unittest.TestCase):
    def test_defined_where_the_interface_lists_them(self):
        for function in (after_word, cycle_of, shortest_word, count_words, merging_word, stuck_pairs, reset_word, is_reset):
            self.assertEqual(function.__module__, words.__name__)

    def test_states_are_not_modified(self):
        wishes = trio()
        self.assertEqual([states(wishes), reset_word(wishes), stuck_pairs(wishes)],
                         [states(wishes), reset_word(wishes), stuck_pairs(wishes)])
        self.assertEqual(wishes, trio())
