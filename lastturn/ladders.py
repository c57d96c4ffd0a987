"""Ladders: from one row of a holding to another one by exchanges of neighbours."""

from lastturn.errors import NotSameHolding
from lastturn.names import is_number
from lastturn.parties import choose


def same_holding(wishes, row, other):
    """Return True if both rows result in the same holding, otherwise False."""
    holding = choose(wishes, row)
    return holding == choose(wishes, other)


def ladder(wishes, row, other):
    """Return a ladder from `row` to `other`: the positions of the exchanges, in order."""
    if not same_holding(wishes, row, other):
        raise NotSameHolding()
    now = list(row)
    positions = []
    # Each guest comes forward to their place in `other`, past guests who all stand behind them there. An envied guest
    # stands ahead of the one who envies in both rows, so such a pair is never exchanged and the holding stays.
    for place, guest in enumerate(other):
        start = now.index(guest)
        positions.extend(list(range(start - 1, place - 1, -1)))
        now.insert(place, now.pop(start))
    return positions


def is_ladder(wishes, row, other, value):
    """Return True if the value is a ladder from `row` to `other`, otherwise False."""
    shortest = ladder(wishes, row, other)
    if not isinstance(value, list) or len(value) != len(shortest):
        return False
    # As many exchanges as there are pairs in different order reach `other` only if each one mends such a pair. So
    # no envied guest falls behind, and the rows on the way need no look.
    now = list(row)
    for position in value:
        if not is_number(position, len(now) - 2):
            return False
        now[position:position + 2] = [now[position + 1], now[position]]
    return now == list(other)
