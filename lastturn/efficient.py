"""Efficient holdings: those that nobody can improve, and that therefore have a row."""

from lastturn.arrivals import ABSENT, check_arrivals
from lastturn.envy import better_gifts, envied_by
from lastturn.errors import NotEfficient
from lastturn.names import are_names
from lastturn.orders import least_order, ring_of
from lastturn.parties import in_order, table_gifts
from lastturn.wishes import best_left


def improvement(wishes, holding):
    """Return an improvement of the holding, or None if it is efficient."""
    table = table_gifts(wishes, holding)
    for guest in wishes.guests():
        for gift in better_gifts(wishes, holding, guest):
            if gift in table:
                return "table", guest, gift
    ring = ring_of(envied_by(wishes, holding))
    if ring is None:
        return None
    return "ring", ring


def is_efficient(wishes, holding):
    """Return True if the holding has no improvement, otherwise False."""
    return improvement(wishes, holding) is None


def is_ring(wishes, holding, value):
    """Return True if the value is a tuple of two or more guests, each envying the next and the last one the first."""
    if not isinstance(value, tuple) or len(value) < 2 or not are_names(value):
        return False
    envied = envied_by(wishes, holding)
    return all([value[at - 1] in envied and guest in envied[value[at - 1]] for at, guest in enumerate(value)])


def is_improvement(wishes, holding, value):
    """Return True if the value is an improvement of the holding, otherwise False."""
    table = table_gifts(wishes, holding)
    if not isinstance(value, tuple) or len(value) not in (2, 3):
        return False
    if len(value) == 2:
        return value[0] == "ring" and is_ring(wishes, holding, value[1])
    return (value[0] == "table" and value[1] in wishes.guests() and value[2] in table
            and value[2] in better_gifts(wishes, holding, value[1]))


def row_of(wishes, holding):
    """Return the least row of the holding."""
    if not is_efficient(wishes, holding):
        raise NotEfficient()
    return least_order(envied_by(wishes, holding))


def one_more_chose(rankings, chosen):
    """Return all that can be chosen when one more guest chooses; a guest who did not choose has ABSENT."""
    after = {}
    for held in chosen:
        for at, gift in enumerate(held):
            if gift == ABSENT:
                after[held[:at] + (best_left(rankings[at], held),) + held[at + 1:]] = True
    return after


def efficient_holdings(wishes):
    """Return the sorted list of all efficient holdings: all that choosing down some row results in."""
    check_arrivals(wishes)
    guests = wishes.guests()
    rankings = [wishes.ranking(guest) for guest in guests]
    # Rows that begin with the same guests, who got the same gifts, share what the others choose.
    chosen = {(ABSENT,) * len(guests): True}
    for _ in guests:
        chosen = one_more_chose(rankings, chosen)
    return [dict(zip(guests, held)) for held in in_order(wishes, chosen)]
