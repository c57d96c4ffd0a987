"""Logs: arrivals and turns that were recorded without the rankings, and what they show of them."""

from lastturn.errors import InvalidLog
from lastturn.names import GUESTS, is_name
from lastturn.parties import owners_of
from lastturn.rounds import after_takes, new_row
from lastturn.wishes import check_gifts

# The most events of a log.
RECORDED = 200


def is_triple(value):
    """Return True if the value is a list or tuple of three items, otherwise False."""
    return isinstance(value, (list, tuple)) and len(value) == 3


def is_record(value):
    """Return True if the value has the form of an event of a log, otherwise False; its takes can have any items."""
    return (is_triple(value) and value[0] in ("arrive", "turn") and is_name(value[1])
            and isinstance(value[2], (list, tuple)) and all([is_triple(take) for take in value[2]]))


def may_act(holding, kind, guest):
    """Return True if a guest of this name may arrive, or have a turn, when the guests of the holding are present."""
    if kind == "turn":
        return guest in holding
    return guest not in holding and len(holding) < GUESTS


def may_take(left, owners, gift, source):
    """Return True if a taker in a round can take the gift from the source; `left` are the gifts not taken before."""
    if not left:
        return gift is None and source is None
    return gift in left and source == owners.get(gift)


def round_shows(gifts, owners, first, takes):
    """Return what the takes of a round show, or None if these takes do not begin with a round of the first taker.

    It has one item for each take: (guest, better gift, list of worse gifts).
    """
    left = list(gifts)
    taker = first
    shown = []
    for guest, gift, source in takes:
        if guest != taker or not may_take(left, owners, gift, source):
            return None
        left = [other for other in left if other != gift]
        shown.append((guest, gift, left))
        if source is None:
            return shown
        taker = source
    return None


def offer_shows(row, holding, gift, takes):
    """Return what an offer of the gift to these guests shows, or None if the takes are not those of such an offer.

    It has one item for each guest: (guest, better gift, list of worse gifts).
    """
    # While a guest has no gift, all gifts are held, and the one that is laid on the table is taken in the round. So
    # whoever is asked in an offer has a gift.
    shown = []
    number = 0
    for guest in row:
        own = holding[guest]
        if number < len(takes) and list(takes[number]) == [guest, gift, None]:
            shown.append((guest, gift, [own]))
            number += 1
            gift = own
        else:
            shown.append((guest, own, [gift]))
    return shown if number == len(takes) else None


def after_event(gifts, row, holding, event):
    """Return the row, the holding and what is shown after the event, or None if no log goes on with it.

    What is shown is a list of (guest, better gift, list of worse gifts).
    """
    if not is_record(event) or not may_act(holding, event[0], event[1]):
        return None
    _, first, takes = event
    laid = holding.get(first)
    owners = {gift: guest for gift, guest in owners_of(holding).items() if guest != first}
    shown = round_shows(gifts, owners, first, takes)
    if shown is None:
        return None
    many = len(shown)
    row = new_row(row, takes[:many])
    holding = after_takes(holding, takes[:many])
    is_left = laid is not None and laid not in [gift for _, gift, _ in shown]
    # The takers, who now stand first, do not accept: their takes have shown that they like the gift less.
    offered = offer_shows(row[many:] if is_left else (), holding, laid, takes[many:])
    if offered is None:
        return None
    return row, after_takes(holding, takes[many:]), shown + offered


def read_log(gifts, log):
    """Return (event, row, holding, shown): the first invalid event, or None, and what the events before it tell."""
    row = ()
    holding = {}
    shown = []
    for number, event in enumerate(log):
        after = after_event(gifts, row, holding, event)
        if after is None or number == RECORDED:
            return number, row, holding, shown
        row, holding, more = after
        shown.append(more)
    return None, row, holding, shown


def check_log(gifts, log):
    """Return None if the log is valid, -1 if it is not a sequence, otherwise the number of the first invalid event."""
    check_gifts(gifts)
    if not isinstance(log, (list, tuple)):
        return -1
    return read_log(gifts, log)[0]


def told_by(gifts, log):
    """Return (row, holding, shown) of a valid log: what is shown is a list for each event."""
    check_gifts(gifts)
    if not isinstance(log, (list, tuple)):
        raise InvalidLog(-1)
    event, row, holding, shown = read_log(gifts, log)
    if event is not None:
        raise InvalidLog(event)
    return row, holding, shown


def row_of_log(gifts, log):
    """Return the row after the log, a tuple."""
    return told_by(gifts, log)[0]


def holding_of_log(gifts, log):
    """Return the holding after the log, a dict in the order of the arrivals."""
    return told_by(gifts, log)[1]
