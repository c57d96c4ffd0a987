"""Reports: what a guest gets who arrives with a reported ranking in place of the own one."""

from itertools import permutations

from lastturn.arrivals import check_arrivals
from lastturn.errors import InvalidRanking, TooLarge
from lastturn.names import ARRIVALS, is_order
from lastturn.parties import check_row, owners_of
from lastturn.rounds import after_takes, check_guest, round_takes
from lastturn.wishes import worth


def check_report(wishes, order, guest):
    """Raise an error unless the value is an order of the guests, and the guest one of them."""
    check_row(wishes, order)
    check_guest(wishes, guest)


def reported_takes(wishes, order, guest, ranking):
    """Return what the guest takes (gifts or None) if they report this ranking; the last one is the result."""
    rankings = wishes.rankings()
    rankings[guest] = ranking
    holding = {}
    taken = []
    for newcomer in order:
        takes = round_takes(rankings, owners_of(holding), newcomer)
        holding = after_takes(holding, takes)
        taken.extend([gift for taker, gift, _ in takes if taker == guest])
    return taken


def after_report(wishes, order, guest, ranking):
    """Return the result of the guest who reports this ranking: a gift or None."""
    check_report(wishes, order, guest)
    if not is_order(ranking, wishes.gifts()):
        raise InvalidRanking(guest)
    check_arrivals(wishes)
    return reported_takes(wishes, order, guest, ranking)[-1]


def best_report(wishes, order, guest):
    """Return the best result of the guest over all reports, and the least ranking that gives it."""
    check_report(wishes, order, guest)
    check_arrivals(wishes)
    gifts = wishes.gifts()
    if len(gifts) > ARRIVALS:
        raise TooLarge(ARRIVALS)
    own = wishes.ranking(guest)
    best = None
    looked = None
    for ranking in permutations(gifts):
        # No taker looks behind the gift that they take, so all rankings that begin in this way have one result.
        if looked is None or ranking[:len(looked)] != looked:
            taken = reported_takes(wishes, order, guest, ranking)
            looked = ranking[:max([worth(ranking, gift) + 1 for gift in taken])]
            if best is None or worth(own, taken[-1]) < worth(own, best[0]):
                best = taken[-1], ranking
    return best


def is_paying(wishes, order, guest, value):
    """Return True if the value is a ranking, as a tuple, with a better result than the own ranking, otherwise False."""
    check_report(wishes, order, guest)
    check_arrivals(wishes)
    if not isinstance(value, tuple) or not is_order(value, wishes.gifts()):
        return False
    own = wishes.ranking(guest)
    result = reported_takes(wishes, order, guest, value)[-1]
    return worth(own, result) < worth(own, reported_takes(wishes, order, guest, own)[-1])
