"""Arrivals: to which holdings the arrival orders of the guests lead."""

from lastturn.errors import TooLarge
from lastturn.names import ARRIVALS
from lastturn.parties import Party, check_row, holding_key, table_gifts
from lastturn.rounds import arrive, check_guest
from lastturn.wishes import Wishes

# Stands in the place of a gift for a guest who is not there yet; None is for a guest who is there without a gift.
ABSENT = ""


def check_arrivals(wishes):
    """Raise an error if there are too many guests to carry out all of their orders."""
    if len(wishes.guests()) > ARRIVALS:
        raise TooLarge(ARRIVALS)


def nobody_present(wishes):
    """Return the party with the gifts on the table before the first arrival."""
    return Party(Wishes(wishes.gifts(), {}), ())


def all_arrivals(wishes):
    """Return a list of tuples (order, holding) with all arrival orders, in ascending order."""
    guests = wishes.guests()
    # Orders with the same beginning share the arrivals of this beginning.
    begun = [((), nobody_present(wishes))]
    for _ in guests:
        begun = [(order + (guest,), arrive(party, guest, wishes.ranking(guest))[0])
                 for order, party in begun for guest in guests if guest not in order]
    return [(order, party.holding()) for order, party in begun]


def after_arrivals(wishes, order):
    """Return the Party after all guests arrived in this order, and the list of the takes of each arrival."""
    check_row(wishes, order)
    party = nobody_present(wishes)
    rounds = []
    for guest in order:
        party, takes = arrive(party, guest, wishes.ranking(guest))
        rounds.append(takes)
    return party, rounds


def outcomes(wishes):
    """Return the list of tuples (holding, number, order) of all holdings to which orders lead, sorted by holdings."""
    check_arrivals(wishes)
    counts = {}
    least = {}
    for order, holding in all_arrivals(wishes):
        key = holding_key(wishes, holding)
        counts[key] = counts.get(key, 0) + 1
        if key not in least:
            least[key] = order
    gifts = wishes.gifts() + [None]
    found = []
    for key in sorted(counts):
        holding = {guest: gifts[number] for guest, number in zip(wishes.guests(), key)}
        found.append((holding, counts[key], least[key]))
    return found


def leads_to(wishes, holding):
    """Return the least order that leads to the holding, or None if no order does."""
    # Only called to check the holding.
    table_gifts(wishes, holding)
    check_arrivals(wishes)
    for order, reached in all_arrivals(wishes):
        if reached == holding:
            return order
    return None


def extremes(wishes, guest):
    """Return the best result of the guest over all orders and the least such order, then the worst and its order."""
    check_guest(wishes, guest)
    check_arrivals(wishes)
    least = {}
    for order, holding in all_arrivals(wishes):
        if holding[guest] not in least:
            least[holding[guest]] = order
    results = [gift for gift in wishes.ranking(guest) + (None,) if gift in least]
    best = results[0]
    worst = results[-1]
    return best, least[best], worst, least[worst]
