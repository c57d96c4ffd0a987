"""Changes of a party besides rounds: a guest leaves, a gift is added, a gift breaks. The order of the row stays."""

from lastturn.errors import DuplicateGift, InvalidName, InvalidRanking, TooLarge, UnknownGift
from lastturn.names import GIFTS, is_name, is_number, is_order
from lastturn.parties import Party, owners_of
from lastturn.rounds import check_guest, offer_takes
from lastturn.wishes import Wishes, best_left


def check_places(wishes, places):
    """Raise an error unless the value is a dict from each guest to an index in a ranking with one more gift."""
    guests = wishes.guests()
    if not isinstance(places, dict) or not is_order(list(places), guests):
        raise InvalidRanking(None)
    for guest in guests:
        if not is_number(places[guest], len(wishes.gifts())):
            raise InvalidRanking(guest)


def break_takes(wishes, row, holding, broken):
    """Return the takes after the gift broke; `wishes` are those without it."""
    now = dict(holding)
    takes = []
    taker = owners_of(now).get(broken)
    while taker is not None:
        now[taker] = None
        ahead = [now[guest] for guest in row[:row.index(taker)]]
        gift = best_left(wishes.ranking(taker), ahead)
        source = owners_of(now).get(gift)
        takes.append((taker, gift, source))
        now[taker] = gift
        taker = source
    return takes


def leave(party, guest):
    """Remove a guest, and offer their gift down the row. Return the new party and the takes."""
    wishes = party.wishes()
    check_guest(wishes, guest)
    rankings = wishes.rankings()
    del rankings[guest]
    wishes = Wishes(wishes.gifts(), rankings)
    row = tuple([other for other in party.row() if other != guest])
    holding = party.holding()
    return Party(wishes, row), offer_takes(wishes, row, holding, holding[guest])


def add_gift(party, gift, places):
    """Add a gift, and offer it down the row. Return the new party and the takes."""
    wishes = party.wishes()
    if not is_name(gift):
        raise InvalidName(gift)
    if gift in wishes.gifts():
        raise DuplicateGift(gift)
    if len(wishes.gifts()) >= GIFTS:
        raise TooLarge(GIFTS)
    check_places(wishes, places)
    rankings = {}
    for guest, ranking in wishes.rankings().items():
        rankings[guest] = ranking[:places[guest]] + (gift,) + ranking[places[guest]:]
    wishes = Wishes(wishes.gifts() + [gift], rankings)
    return Party(wishes, party.row()), offer_takes(wishes, party.row(), party.holding(), gift)


def break_gift(party, gift):
    """Remove a gift. Return the new party and the takes of the guests who lost a gift by this."""
    wishes = party.wishes()
    if gift not in wishes.gifts():
        raise UnknownGift(gift)
    rankings = {}
    for guest, ranking in wishes.rankings().items():
        rankings[guest] = [other for other in ranking if other != gift]
    wishes = Wishes([other for other in wishes.gifts() if other != gift], rankings)
    return Party(wishes, party.row()), break_takes(wishes, party.row(), party.holding(), gift)
