"""Wishes: the gifts in a fixed order, and a ranking of them for each guest."""

from lastturn.errors import InvalidGifts, InvalidName, InvalidRanking, TooLarge, UnknownGift, UnknownGuest
from lastturn.names import GIFTS, GUESTS, are_names, is_name, is_order


def check_gifts(gifts):
    """Raise an error unless the value is a sequence of at most GIFTS different names."""
    if not are_names(gifts):
        raise InvalidGifts()
    if len(gifts) > GIFTS:
        raise TooLarge(GIFTS)


def check_rankings(gifts, rankings):
    """Raise an error unless the value is a dict from at most GUESTS names to rankings of the gifts."""
    if not isinstance(rankings, dict):
        raise InvalidRanking(None)
    for guest in rankings:
        if not is_name(guest):
            raise InvalidName(guest)
    if len(rankings) > GUESTS:
        raise TooLarge(GUESTS)
    for guest, ranking in rankings.items():
        if not is_order(ranking, gifts):
            raise InvalidRanking(guest)


def best_left(ranking, gone):
    """Return the best gift of the ranking that is not gone, or None if all are gone."""
    for gift in ranking:
        if gift not in gone:
            return gift
    return None


def worth(ranking, gift):
    """Return the place of the gift in the ranking; None, which is worse than every gift, comes after all of them."""
    if gift is None:
        return len(ranking)
    return ranking.index(gift)


class Wishes:
    """The gifts and one ranking of them for each guest. Wishes never change."""

    def __init__(self, gifts, rankings):
        check_gifts(gifts)
        check_rankings(gifts, rankings)
        self._gifts = list(gifts)
        self._guests = list(rankings)
        self._rankings = {guest: tuple(rankings[guest]) for guest in rankings}

    def __eq__(self, other):
        # Dicts are equal in any order of their keys, so the guests are compared on their own.
        return (isinstance(other, Wishes) and self._gifts == other._gifts and self._guests == other._guests
                and self._rankings == other._rankings)

    def gifts(self):
        """Return the list of the gifts, in gift order."""
        return list(self._gifts)

    def guests(self):
        """Return the list of the guests, in guest order."""
        return list(self._guests)

    def ranking(self, guest):
        """Return the ranking of the guest, a tuple from best to worst."""
        if guest not in self._guests:
            raise UnknownGuest(guest)
        return self._rankings[guest]

    def rankings(self):
        """Return a dict from each guest to their ranking, in guest order."""
        return dict(self._rankings)

    def prefers(self, guest, one, other):
        """Return True if the guest prefers the gift `one` to the gift `other`, otherwise False."""
        ranking = self.ranking(guest)
        for gift in (one, other):
            if gift not in ranking:
                raise UnknownGift(gift)
        return ranking.index(one) < ranking.index(other)
