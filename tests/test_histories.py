"""Point 4: after every history the holding is the one that results from choosing down the row."""

import unittest

from helpers import ALPHABET, check_event, check_same, Model, seeded, snapshot
from lastturn.changes import add_gift, break_gift, leave
from lastturn.parties import Party, choose
from lastturn.rounds import arrive, turn
from lastturn.wishes import Wishes

NAMES = [one + other for one in "abcd" for other in ALPHABET]


def next_event(rng, party, most):
    """Return an event by chance that the party can do: the function, its arguments, and the method of the model."""
    gifts, guests = party.wishes().gifts(), party.wishes().guests()
    kinds = ["turn", "turn", "leave"] * bool(guests) + ["arrive", "arrive"] * (len(guests) < most)
    kinds = kinds + ["break"] * bool(gifts) + ["add", "add"] * (len(gifts) < most)
    kind = rng.choice(kinds)
    if kind == "arrive":
        name = rng.choice([name for name in NAMES if name not in guests])
        return arrive, (name, rng.sample(gifts, len(gifts))), "arrive"
    if kind == "add":
        name = rng.choice([name for name in NAMES if name not in gifts])
        return add_gift, (name, {guest: rng.randint(0, len(gifts)) for guest in rng.sample(guests, len(guests))}), "add"
    if kind == "break":
        return break_gift, (rng.choice(gifts),), "break_gift"
    return {"turn": turn, "leave": leave}[kind], (rng.choice(guests),), kind


class HistoriesTest(unittest.TestCase):
    def carry_out(self, rng, gifts, most, many):
        """Carry out this many events, each checked against the model, which is also carried along without the party."""
        party, model = Party(Wishes(gifts, {}), ()), Model(gifts)
        earlier = []
        seen = set()
        for _ in range(many):
            earlier.append((party, snapshot(party)))
            function, args, carried = next_event(rng, party, most)
            row = party.row()
            party = check_event(self, party, function, args, carried)
            getattr(model, carried)(*args)
            check_same(self, party, model)
            self.assertEqual(party.holding(), choose(party.wishes(), party.row()))
            if carried in ("leave", "add", "break_gift"):
                self.assertEqual(party.row(), tuple(guest for guest in row if guest in party.row()))
            seen.add(carried)
        for kept, before in earlier:
            self.assertEqual(snapshot(kept), before)
        return seen

    def test_small_histories(self):
        rng = seeded(11)
        for number in range(150):
            self.carry_out(rng, NAMES[:number % 5], 4, 30)

    def test_large_histories(self):
        rng = seeded(12)
        for number in range(12):
            seen = self.carry_out(rng, NAMES[:(0, 8, 16)[number % 3]], 16, 120)
            self.assertEqual(seen, {"arrive", "turn", "leave", "add", "break_gift"})

    def test_only_rounds_change_the_order_of_the_row(self):
        rng = seeded(13)
        party = Party(Wishes(NAMES[:5], {}), ())
        for _ in range(300):
            function, args, _ = next_event(rng, party, 7)
            row = party.row()
            party, takes = function(party, *args)
            takers = []
            if function in (arrive, turn):
                # The round ends with the first take whose source is None.
                sources = [source for _, _, source in takes]
                takers = [guest for guest, _, _ in takes[:sources.index(None) + 1]]
            stay = [guest for guest in row if guest in party.row() and guest not in takers]
            self.assertEqual(party.row(), tuple(takers + stay))

    def test_equal_calls_return_equal_results(self):
        rng = seeded(14)
        party = Party(Wishes(NAMES[:6], {}), ())
        for _ in range(100):
            function, args, _ = next_event(rng, party, 8)
            once, again = function(party, *args), function(party, *args)
            self.assertEqual(once, again)
            self.assertIsNot(once[1], again[1])
            party = again[0]
