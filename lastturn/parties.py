"""Parties: Wishes with a row of the guests. The row explains who holds what."""

from lastturn.errors import InvalidHolding, InvalidRow
from lastturn.names import is_order
from lastturn.wishes import best_left


def check_row(wishes, row):
    """Raise an error unless the value is a row, or an arrival order, of the guests."""
    if not is_order(row, wishes.guests()):
        raise InvalidRow()


def choose(wishes, row):
    """Return the holding that results when the guests choose one by one down the row."""
    check_row(wishes, row)
    holding = {guest: None for guest in wishes.guests()}
    gone = []
    for guest in row:
        holding[guest] = best_left(wishes.ranking(guest), gone)
        gone.append(holding[guest])
    return holding


def gifts_left(wishes, holding):
    """Return the list of the gifts that none of the guests in the dict holds; raise an error for a wrong gift."""
    left = wishes.gifts()
    for guest in wishes.guests():
        gift = holding.get(guest)
        if gift is not None:
            if gift not in left:
                raise InvalidHolding(guest)
            left.remove(gift)
    return left


def table_gifts(wishes, holding):
    """Return the list of the gifts that nobody holds, in gift order."""
    if not isinstance(holding, dict) or not is_order(list(holding), wishes.guests()):
        raise InvalidHolding(None)
    return gifts_left(wishes, holding)


def owners_of(holding):
    """Return a dict from each gift that a guest holds to this guest."""
    return {gift: guest for guest, gift in holding.items() if gift is not None}


def in_order(wishes, holdings):
    """Return these holdings, tuples of gifts or None in guest order, as a sorted list."""
    gifts = wishes.gifts() + [None]
    return sorted(list(holdings), key=lambda held: [gifts.index(gift) for gift in held])


class Party:
    """Wishes and a row; the holding is the one that choosing down the row results in. Parties never change."""

    def __init__(self, wishes, row):
        self._holding = choose(wishes, row)
        self._wishes = wishes
        self._row = tuple(row)

    def __eq__(self, other):
        return isinstance(other, Party) and self._wishes == other._wishes and self._row == other._row

    def wishes(self):
        """Return the Wishes of the party."""
        return self._wishes

    def row(self):
        """Return the row, a tuple."""
        return self._row

    def holding(self):
        """Return the holding, a dict from each guest to a gift or None, in guest order."""
        return dict(self._holding)

    def table(self):
        """Return the list of the table gifts, in gift order."""
        return table_gifts(self._wishes, self._holding)
