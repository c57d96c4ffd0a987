"""Possible gifts: what guests can get by choosing down some row."""

from lastturn.errors import InvalidHolding, TooLarge
from lastturn.names import LISTED, named
from lastturn.parties import gifts_left
from lastturn.rounds import check_guest
from lastturn.wishes import best_left


def check_listed(wishes):
    """Raise an error if there are too many guests to consider all rows."""
    if len(wishes.guests()) > LISTED:
        raise TooLarge(LISTED)


def check_wanted(wishes, wanted):
    """Raise an error unless the value is a dict from some of the guests to different gifts or None."""
    guests = wishes.guests()
    if not isinstance(wanted, dict) or not all([guest in guests for guest in wanted]):
        raise InvalidHolding(None)
    # Only called to check the gifts.
    gifts_left(wishes, wanted)


def longer_rows(rankings, begun, wanted):
    """Return what `begun` becomes when one more guest chooses; nobody chooses who would not get what they want.

    `begun` is a dict from tuples (waiting, gone), the guests who did not choose yet and the gifts that are gone, to the
    least row that leads there; what follows depends on nothing else. The rows ascend. Guests are numbers.
    """
    after = {}
    for (waiting, gone), row in begun.items():
        for at in waiting:
            gift = best_left(rankings[at], gone)
            if wanted.get(at, gift) == gift:
                others = tuple([other for other in waiting if other != at])
                then = gone if gift is None else tuple(sorted(gone + (gift,)))
                # The rows ascend, so the first one that leads there is the least one.
                if (others, then) not in after:
                    after[(others, then)] = row + (at,)
    return after


def possible_gifts(wishes, guest):
    """Return the list of tuples (gift, row) of all that the guest gets in some row, each with the least such row."""
    check_guest(wishes, guest)
    check_listed(wishes)
    guests = wishes.guests()
    ranking = wishes.ranking(guest)
    rankings = [wishes.ranking(other) for other in guests]
    me = guests.index(guest)
    begun = {(tuple([at for at in range(len(guests)) if at != me]), ()): ()}
    least = {}
    for _ in guests:
        for (waiting, gone), ahead in begun.items():
            gift = best_left(ranking, gone)
            row = ahead + (me,) + waiting
            if gift not in least or row < least[gift]:
                least[gift] = row
        begun = longer_rows(rankings, begun, {})
    return [(gift, named(guests, least[gift])) for gift in ranking + (None,) if gift in least]


def row_with(wishes, wanted):
    """Return the least row in which each guest of the dict gets exactly what it says, or None if there is none."""
    check_wanted(wishes, wanted)
    check_listed(wishes)
    guests = wishes.guests()
    rankings = [wishes.ranking(guest) for guest in guests]
    numbered = {guests.index(guest): gift for guest, gift in wanted.items()}
    begun = {(tuple(range(len(guests))), ()): ()}
    for _ in guests:
        begun = longer_rows(rankings, begun, numbered)
    rows = list(begun.values())
    if not rows:
        return None
    return named(guests, rows[0])
