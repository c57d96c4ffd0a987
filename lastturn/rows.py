"""The rows of a holding: how many there are, and their numbers in ascending order."""

from lastturn.efficient import is_efficient
from lastturn.envy import envied_by
from lastturn.errors import NotEfficient, OutOfRange, TooLarge
from lastturn.names import COUNTED, is_number, named
from lastturn.orders import Orders
from lastturn.parties import choose, table_gifts


def check_counted(wishes):
    """Raise an error if there are too many guests to count the rows."""
    if len(wishes.guests()) > COUNTED:
        raise TooLarge(COUNTED)


def orders_of(wishes, holding):
    """Return the Orders of the guest numbers with every envied guest ahead of those who envy."""
    guests = wishes.guests()
    return Orders([[guests.index(other) for other in others] for others in envied_by(wishes, holding).values()])


def count_rows(wishes, holding):
    """Return the number of rows of the holding, 0 if it is not efficient."""
    # Only called to check the holding.
    table_gifts(wishes, holding)
    check_counted(wishes)
    if not is_efficient(wishes, holding):
        return 0
    return orders_of(wishes, holding).ways(0)


def row_at(wishes, holding, number):
    """Return the row of the holding with this number."""
    table_gifts(wishes, holding)
    check_counted(wishes)
    if not is_efficient(wishes, holding):
        raise NotEfficient()
    orders = orders_of(wishes, holding)
    if not is_number(number, orders.ways(0) - 1):
        raise OutOfRange(number)
    return named(wishes.guests(), orders.order_at(number))


def row_number(wishes, row):
    """Return the number of the row among the rows of the holding that results from it."""
    holding = choose(wishes, row)
    check_counted(wishes)
    guests = wishes.guests()
    return orders_of(wishes, holding).place_of([guests.index(guest) for guest in row])
