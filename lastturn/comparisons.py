"""Comparisons: what a log shows of the rankings of its guests."""

from lastturn.errors import Contradictory, UnknownGift, UnknownGuest
from lastturn.logs import told_by
from lastturn.orders import ring_of


def shown_to_be(shown, guest):
    """Return a dict from each pair (better, worse) that a log shows of the guest to the first event that shows it."""
    first = {}
    for event, items in enumerate(shown):
        for who, better, others in items:
            if who == guest:
                for worse in others:
                    first.setdefault((better, worse), event)
    return first


def worse_gifts(gifts, pairs):
    """Return a dict from each gift to the list of the gifts that the pairs (better, worse) show to be worse."""
    return {gift: [other for other in gifts if (gift, other) in pairs] for gift in gifts}


def pairs_of(gifts, log, guest):
    """Return the pairs that the log shows of the guest, as `shown_to_be` returns them."""
    _, holding, shown = told_by(gifts, log)
    if guest not in list(holding):
        raise UnknownGuest(guest)
    return shown_to_be(shown, guest)


def check_ring(worse, guest):
    """Raise an error if the comparisons of the guest are contradictory."""
    if ring_of(worse) is not None:
        raise Contradictory(guest)


def comparisons(gifts, log, guest):
    """Return the list of all pairs that the log shows of the guest, each with the first event that shows it."""
    pairs = pairs_of(gifts, log, guest)
    found = [(better, worse, event) for (better, worse), event in pairs.items()]
    return sorted(found, key=lambda pair: (pair[2], gifts.index(pair[0]), gifts.index(pair[1])))


def contradiction(gifts, log):
    """Return (guest, ring) of the first guest with contradictory comparisons, or None if there is no such guest."""
    _, holding, shown = told_by(gifts, log)
    for guest in holding:
        ring = ring_of(worse_gifts(gifts, shown_to_be(shown, guest)))
        if ring is not None:
            return guest, list(ring)
    return None


def is_contradiction(gifts, log, value):
    """Return True if the value is a tuple (guest, ring) of a guest and a ring of their comparisons, otherwise False."""
    _, holding, shown = told_by(gifts, log)
    if not isinstance(value, tuple) or len(value) != 2 or value[0] not in list(holding):
        return False
    ring = value[1]
    if not isinstance(ring, list) or len(ring) < 2 or not all([gift in gifts for gift in ring]):
        return False
    pairs = shown_to_be(shown, value[0])
    return len(set(ring)) == len(ring) and all([(ring[at - 1], gift) in pairs for at, gift in enumerate(ring)])


def way_down(worse, one, other):
    """Return a list from `one` to `other`, each shown to be better than the next, or None, also for equal gifts."""
    ways = {}
    waiting = [[one]]
    while waiting:
        way = waiting.pop()
        for gift in worse[way[-1]]:
            if gift not in ways:
                ways[gift] = way + [gift]
                waiting.append(ways[gift])
    return ways.get(other)


def checked_worse(gifts, log, guest, one, other):
    """Return what `worse_gifts` returns for the guest, if both are gifts and the comparisons not contradictory."""
    worse = worse_gifts(gifts, pairs_of(gifts, log, guest))
    for gift in (one, other):
        if gift not in gifts:
            raise UnknownGift(gift)
    check_ring(worse, guest)
    return worse


def certain(gifts, log, guest, one, other):
    """Return True if `one` is better than `other` in all possible rankings, False if it is worse, otherwise None."""
    worse = checked_worse(gifts, log, guest, one, other)
    if way_down(worse, one, other) is not None:
        return True
    if way_down(worse, other, one) is not None:
        return False
    return None


def reason(gifts, log, guest, one, other):
    """Return a list of gifts from `one` to `other`, each shown to be better than the next, or None if not certain."""
    return way_down(checked_worse(gifts, log, guest, one, other), one, other)
