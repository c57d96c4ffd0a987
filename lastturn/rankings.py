"""Possible rankings: those that agree with all that a log shows of a guest."""

from lastturn.comparisons import check_ring, pairs_of, shown_to_be, worse_gifts
from lastturn.errors import InvalidRanking, OutOfRange, TooLarge
from lastturn.logs import told_by
from lastturn.names import LOGGED, is_number, is_order, named
from lastturn.orders import Orders


def check_logged(gifts):
    """Raise an error if there are too many gifts to count the rankings."""
    if len(gifts) > LOGGED:
        raise TooLarge(LOGGED)


def orders_of(gifts, pairs):
    """Return the Orders of the gift numbers with every gift ahead that the pairs (better, worse) show to be better."""
    return Orders([[at for at, other in enumerate(gifts) if (other, gift) in pairs] for gift in gifts])


def agrees(ranking, pairs):
    """Return True if the ranking contradicts none of the pairs (better, worse), otherwise False."""
    return all([ranking.index(better) < ranking.index(worse) for better, worse in pairs])


def count_rankings(gifts, log, guest):
    """Return the number of possible rankings of the guest, 0 if the comparisons are contradictory."""
    pairs = pairs_of(gifts, log, guest)
    check_logged(gifts)
    return orders_of(gifts, pairs).ways(0)


def ranking_at(gifts, log, guest, number):
    """Return the possible ranking of the guest with this number, a tuple."""
    pairs = pairs_of(gifts, log, guest)
    check_logged(gifts)
    check_ring(worse_gifts(gifts, pairs), guest)
    orders = orders_of(gifts, pairs)
    if not is_number(number, orders.ways(0) - 1):
        raise OutOfRange(number)
    return named(gifts, orders.order_at(number))


def ranking_number(gifts, log, guest, ranking):
    """Return the number of a possible ranking of the guest."""
    pairs = pairs_of(gifts, log, guest)
    check_logged(gifts)
    if not is_order(ranking, gifts) or not agrees(ranking, pairs):
        raise InvalidRanking(guest)
    return orders_of(gifts, pairs).place_of([gifts.index(gift) for gift in ranking])


def next_takes(gifts, log, guest):
    """Return the list of all gifts, in gift order, that are best in a possible ranking: the guest takes these first."""
    pairs = pairs_of(gifts, log, guest)
    check_ring(worse_gifts(gifts, pairs), guest)
    worse = [other for _, other in pairs]
    return [gift for gift in gifts if gift not in worse]


def explains(gifts, log, rankings):
    """Return True if arrivals and turns with these rankings lead to exactly this log, otherwise False."""
    _, holding, shown = told_by(gifts, log)
    if not isinstance(rankings, dict) or not is_order(list(rankings), list(holding)):
        raise InvalidRanking(None)
    for guest in holding:
        if not is_order(rankings[guest], gifts):
            raise InvalidRanking(guest)
    return all([agrees(rankings[guest], shown_to_be(shown, guest)) for guest in holding])
