"""The rows of a holding: how many there are, and their numbers in ascending order."""

from lastturn.efficient import is_efficient
from lastturn.envy import envied_by
from lastturn.errors import NotEfficient, OutOfRange, TooLarge
from lastturn.names import COUNTED, is_number
from lastturn.parties import choose, table_gifts


class RowTree:
    """The rows with every envied guest ahead, guest by guest. A set of guests is a sum of 1 << number for each."""

    def __init__(self, wishes, holding):
        guests = wishes.guests()
        envied = envied_by(wishes, holding)
        self._ahead = [sum([1 << guests.index(other) for other in envied[guest]]) for guest in guests]
        # All guests together stand in one way: there is nobody who could follow.
        self._ways = {(1 << len(guests)) - 1: 1}

    def followers(self, placed):
        """Return the numbers of the guests who may stand next behind these guests, in ascending order."""
        return [at for at, ahead in enumerate(self._ahead) if not placed & (1 << at) and (ahead & placed) == ahead]

    def ways(self, placed):
        """Return in how many ways the other guests may stand behind these guests."""
        if placed not in self._ways:
            self._ways[placed] = sum([self.ways(placed | (1 << at)) for at in self.followers(placed)])
        return self._ways[placed]

    def follower(self, placed, number):
        """Return who stands next in the way with this number, which is one of them, and what it is numbered then."""
        for at in self.followers(placed):
            ways = self.ways(placed | (1 << at))
            if number < ways:
                return at, number
            number -= ways


def check_counted(wishes):
    """Raise an error if there are too many guests to count the rows."""
    if len(wishes.guests()) > COUNTED:
        raise TooLarge(COUNTED)


def count_rows(wishes, holding):
    """Return the number of rows of the holding, 0 if it is not efficient."""
    # Only called to check the holding.
    table_gifts(wishes, holding)
    check_counted(wishes)
    if not is_efficient(wishes, holding):
        return 0
    return RowTree(wishes, holding).ways(0)


def row_at(wishes, holding, number):
    """Return the row of the holding with this number."""
    table_gifts(wishes, holding)
    check_counted(wishes)
    if not is_efficient(wishes, holding):
        raise NotEfficient()
    tree = RowTree(wishes, holding)
    if not is_number(number, tree.ways(0) - 1):
        raise OutOfRange(number)
    guests = wishes.guests()
    row = []
    placed = 0
    for _ in guests:
        at, number = tree.follower(placed, number)
        row.append(guests[at])
        placed = placed | (1 << at)
    return tuple(row)


def row_number(wishes, row):
    """Return the number of the row among the rows of the holding that results from it."""
    holding = choose(wishes, row)
    check_counted(wishes)
    tree = RowTree(wishes, holding)
    guests = wishes.guests()
    number = 0
    placed = 0
    for guest in row:
        at = guests.index(guest)
        number += sum([tree.ways(placed | (1 << other)) for other in tree.followers(placed) if other < at])
        placed = placed | (1 << at)
    return number
