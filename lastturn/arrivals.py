"""Arrivals: to which holdings the arrival orders of the guests lead."""

from lastturn.errors import TooLarge
from lastturn.names import ARRIVALS, named
from lastturn.parties import Party, check_row, in_order, table_gifts
from lastturn.rounds import arrive, check_guest, round_takes
from lastturn.wishes import Wishes

# Stands in the place of a gift for a guest who is not there yet; None is for a guest who is there without a gift.
ABSENT = ""


def check_arrivals(wishes):
    """Raise an error if there are too many guests to carry out all of their orders."""
    if len(wishes.guests()) > ARRIVALS:
        raise TooLarge(ARRIVALS)


def nobody_present(wishes):
    """Return the party with the gifts on the table before the first arrival."""
    return Party(Wishes(wishes.gifts(), {}), ())


def after_one_more(rankings, reached):
    """Return what is reached from `reached` by one more arrival.

    Both are dicts from each holding, a tuple of gifts, None or ABSENT, to a tuple (number, order): how many orders lead
    to it, and the least of them. These orders ascend. Guests are numbers.
    """
    after = {}
    for held, (number, order) in reached.items():
        owners = {gift: guest for guest, gift in enumerate(held) if gift is not None}
        for newcomer, gift in enumerate(held):
            if gift == ABSENT:
                now = list(held)
                for guest, taken, _ in round_takes(rankings, owners, newcomer):
                    now[guest] = taken
                holding = tuple(now)
                if holding in after:
                    after[holding] = after[holding][0] + number, after[holding][1]
                else:
                    # The orders ascend, so the first one that leads here is the least one.
                    after[holding] = number, order + (newcomer,)
    return after


def all_arrivals(wishes):
    """Return what is reached when all guests have arrived, as `after_one_more` returns it."""
    rankings = list(wishes.rankings().values())
    # What follows depends on who is present and who holds what: orders that agree in this share their later rounds.
    reached = {(ABSENT,) * len(rankings): (1, ())}
    for _ in rankings:
        reached = after_one_more(rankings, reached)
    return reached


def after_arrivals(wishes, order):
    """Return the Party after all guests arrived in this order, and the list of the takes of each arrival."""
    check_row(wishes, order)
    party = nobody_present(wishes)
    rounds = []
    for guest in order:
        party, takes = arrive(party, guest, wishes.ranking(guest))
        rounds.append(takes)
    return party, rounds


def outcomes(wishes):
    """Return the list of tuples (holding, number, order) of all holdings to which orders lead, sorted by holdings."""
    check_arrivals(wishes)
    guests = wishes.guests()
    reached = all_arrivals(wishes)
    found = []
    for held in in_order(wishes, reached):
        number, order = reached[held]
        found.append((dict(zip(guests, held)), number, named(guests, order)))
    return found


def leads_to(wishes, holding):
    """Return the least order that leads to the holding, or None if no order does."""
    # Only called to check the holding.
    table_gifts(wishes, holding)
    check_arrivals(wishes)
    guests = wishes.guests()
    held = tuple([holding[guest] for guest in guests])
    reached = all_arrivals(wishes)
    if held not in reached:
        return None
    return named(guests, reached[held][1])


def extremes(wishes, guest):
    """Return the best result of the guest over all orders and the least such order, then the worst and its order."""
    check_guest(wishes, guest)
    check_arrivals(wishes)
    guests = wishes.guests()
    at = guests.index(guest)
    reached = all_arrivals(wishes)
    least = {}
    for held, (_, order) in reached.items():
        if held[at] not in least:
            least[held[at]] = order
    results = [gift for gift in wishes.ranking(guest) + (None,) if gift in least]
    best = results[0]
    worst = results[-1]
    return best, named(guests, least[best]), worst, named(guests, least[worst])
