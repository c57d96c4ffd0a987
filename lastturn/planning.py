"""Planning: what the guests take if everybody knows the order of the arrivals and all rankings."""

from lastturn.arrivals import after_arrivals
from lastturn.envy import better_off
from lastturn.errors import TooLarge
from lastturn.names import PLANNED
from lastturn.parties import check_row, owners_of
from lastturn.wishes import worth


def check_planned(wishes, order):
    """Raise an error unless the value is an order of the guests, and guests and gifts are few."""
    check_row(wishes, order)
    if len(wishes.guests()) > PLANNED or len(wishes.gifts()) > PLANNED:
        raise TooLarge(PLANNED)


class Plan:
    """The choices of all takers in an order of arrivals, found from the last take backwards."""

    def __init__(self, rankings, order):
        self._rankings = rankings
        self._order = order
        self._known = {}

    def from_arrival(self, holding):
        """Return the last holding, and the takes of each arrival that comes after this holding."""
        if len(holding) == len(self._order):
            return holding, []
        # The guests who are present stand in the order of their arrival.
        key = tuple(holding.values())
        if key not in self._known:
            newcomer = self._order[len(holding)]
            last, takes, rounds = self.from_take(owners_of(holding), holding, newcomer, [])
            self._known[key] = last, [takes] + rounds
        return self._known[key]

    def from_take(self, owners, holding, taker, taken):
        """Return the last holding, the takes of this round from this taker on, and those of each later arrival."""
        ranking = self._rankings[taker]
        best = None
        # The best gift comes first, so among several takes with the same result its take stays.
        for gift in [other for other in ranking if other not in taken] or [None]:
            after = {**holding, taker: gift}
            source = owners.get(gift)
            takes = []
            if source is None:
                last, rounds = self.from_arrival(after)
            else:
                last, takes, rounds = self.from_take(owners, after, source, taken + [gift])
            if best is None or worth(ranking, last[taker]) < worth(ranking, best[0][taker]):
                best = last, [(taker, gift, source)] + takes, rounds
        return best


def planned(wishes, order):
    """Return the holding after the last arrival if all guests plan, and the list of the takes of each arrival."""
    check_planned(wishes, order)
    last, rounds = Plan(wishes.rankings(), order).from_arrival({})
    return {guest: last[guest] for guest in wishes.guests()}, rounds


def unplanned(wishes, order):
    """Return the holding after the last arrival if nobody plans."""
    return after_arrivals(wishes, order)[0].holding()


def gaining(wishes, order):
    """Return the list of the guests who get something better if all guests plan than if nobody plans."""
    holding = planned(wishes, order)[0]
    return better_off(wishes, unplanned(wishes, order), holding)


def losing(wishes, order):
    """Return the list of the guests who get something worse if all guests plan than if nobody plans."""
    holding = planned(wishes, order)[0]
    return better_off(wishes, holding, unplanned(wishes, order))
