"""Envy: who would rather have what another guest has, and who is better off in another holding."""

from lastturn.parties import choose, table_gifts
from lastturn.wishes import worth


def better_gifts(wishes, holding, guest):
    """Return the gifts that are better for the guest than what the guest has, the best one first."""
    ranking = wishes.ranking(guest)
    return ranking[:worth(ranking, holding[guest])]


def envied_by(wishes, holding):
    """Return a dict from each guest to the list of those whom the guest envies, all in guest order."""
    guests = wishes.guests()
    envied = {}
    for guest in guests:
        better = better_gifts(wishes, holding, guest)
        envied[guest] = [other for other in guests if holding[other] in better]
    return envied


def envy_pairs(wishes, holding):
    """Return the list of all pairs (guest, other) such that the guest envies the other one, in guest order."""
    # Only called to check the holding.
    table_gifts(wishes, holding)
    return [(guest, other) for guest, others in envied_by(wishes, holding).items() for other in others]


def is_row_of(wishes, holding, row):
    """Return True if choosing down the row results in the holding, otherwise False."""
    table_gifts(wishes, holding)
    return choose(wishes, row) == holding


def better_off(wishes, holding, other):
    """Return the list of the guests who prefer what they have in `other` to what they have in `holding`."""
    table_gifts(wishes, holding)
    table_gifts(wishes, other)
    return [guest for guest in wishes.guests() if other[guest] in better_gifts(wishes, holding, guest)]
