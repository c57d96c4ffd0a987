"""Rounds: a newcomer, or a present guest, takes a gift, and each guest who loses one takes another one."""

from lastturn.errors import DuplicateGuest, InvalidName, UnknownGuest
from lastturn.names import is_name
from lastturn.parties import Party, owners_of
from lastturn.wishes import Wishes, best_left


def check_newcomer(wishes, guest):
    """Raise an error unless the value is the name of a guest who is not present."""
    if not is_name(guest):
        raise InvalidName(guest)
    if guest in wishes.guests():
        raise DuplicateGuest(guest)


def check_guest(wishes, guest):
    """Raise an error unless the guest is present."""
    if guest not in wishes.guests():
        raise UnknownGuest(guest)


def round_takes(rankings, owners, first):
    """Return the takes of a round with this first taker; `owners` are the guests with a gift that is not on the table.

    It asks for nothing but rankings[guest] and owners.get(gift), as some functions carry out a great many rounds.
    """
    # A gift that nobody has taken yet is still where it was before the round, so `owners` need not follow the takes.
    takes = []
    taken = []
    taker = first
    while taker is not None:
        gift = best_left(rankings[taker], taken)
        source = owners.get(gift)
        takes.append((taker, gift, source))
        taken.append(gift)
        taker = source
    return takes


def after_takes(holding, takes):
    """Return the holding after these takes."""
    after = dict(holding)
    for guest, gift, _ in takes:
        after[guest] = gift
    return after


def new_row(row, takes):
    """Return the row after a round: the takers in the order of their takes, then all others as before."""
    takers = [guest for guest, _, _ in takes]
    return tuple(takers + [guest for guest in row if guest not in takers])


def offer_takes(wishes, row, holding, gift):
    """Return the takes of an offer of the gift (None: of nothing) down the row."""
    takes = []
    for guest in row:
        own = holding[guest]
        if gift is not None and (own is None or wishes.prefers(guest, gift, own)):
            takes.append((guest, gift, None))
            gift = own
    return takes


def arrive(party, guest, ranking):
    """Carry out the round of a newcomer. Return the new party and the takes."""
    wishes = party.wishes()
    check_newcomer(wishes, guest)
    rankings = wishes.rankings()
    rankings[guest] = ranking
    # Wishes raise TooLarge(GUESTS), then InvalidRanking: of the newcomer, as all other rankings are valid.
    wishes = Wishes(wishes.gifts(), rankings)
    takes = round_takes(rankings, owners_of(party.holding()), guest)
    return Party(wishes, new_row(party.row(), takes)), takes


def turn(party, guest):
    """Carry out the turn of a present guest. Return the new party and the takes of the round and of the offer."""
    wishes = party.wishes()
    check_guest(wishes, guest)
    holding = party.holding()
    laid = holding[guest]
    holding[guest] = None
    takes = round_takes(wishes.rankings(), owners_of(holding), guest)
    row = new_row(party.row(), takes)
    if laid not in [gift for _, gift, _ in takes]:
        takes = takes + offer_takes(wishes, row, after_takes(holding, takes), laid)
    return Party(wishes, row), takes
