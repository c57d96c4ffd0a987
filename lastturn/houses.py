"""Full houses: as many gifts as guests. Where repeated turns lead."""

from lastturn.efficient import efficient_holdings, is_efficient
from lastturn.errors import InvalidState, NotEfficient, NotFull, TooLarge
from lastturn.names import HOUSE, is_order
from lastturn.rounds import check_guest, round_takes


def check_house(wishes):
    """Raise an error unless there are as many gifts as guests, and at most HOUSE of them."""
    if len(wishes.gifts()) != len(wishes.guests()):
        raise NotFull()
    if len(wishes.guests()) > HOUSE:
        raise TooLarge(HOUSE)


def check_state(wishes, state):
    """Raise an error unless the value is a state."""
    if not isinstance(state, tuple) or not is_order(state, wishes.gifts()):
        raise InvalidState()
    if not is_efficient(wishes, dict(zip(wishes.guests(), state))):
        raise NotEfficient()


def check_states(wishes, one, other):
    """Raise an error unless the house is full and not too large, and both values are states of it."""
    check_house(wishes)
    check_state(wishes, one)
    check_state(wishes, other)


def after_round(rankings, state, first):
    """Return the state after the turn of the guest with this number; rankings and states are in guest order."""
    owners = {gift: guest for guest, gift in enumerate(state) if guest != first}
    after = list(state)
    for guest, gift, _ in round_takes(rankings, owners, first):
        after[guest] = gift
    return tuple(after)


class Turns:
    """Where the turns in a full house lead. What was asked for before is not carried out again."""

    def __init__(self, wishes):
        self._rankings = list(wishes.rankings().values())
        self._after = {}

    def after(self, state):
        """Return the list of the states after a turn of each guest, in guest order."""
        if state not in self._after:
            numbers = range(len(self._rankings))
            self._after[state] = [after_round(self._rankings, state, number) for number in numbers]
        return self._after[state]


def reached_from(turns, state):
    """Return the list of all states to which the state leads."""
    found = {state: True}
    waiting = [state]
    while waiting:
        now = waiting.pop()
        for after in turns.after(now):
            if after not in found:
                found[after] = True
                waiting.append(after)
    return list(found)


def states(wishes):
    """Return the list of all states, in ascending order."""
    check_house(wishes)
    return [tuple(holding.values()) for holding in efficient_holdings(wishes)]


def state_of(wishes, holding):
    """Return the state of the holding."""
    check_house(wishes)
    if not is_efficient(wishes, holding):
        raise NotEfficient()
    return tuple([holding[guest] for guest in wishes.guests()])


def after_turn(wishes, state, guest):
    """Return the state after a turn of the guest."""
    check_house(wishes)
    check_state(wishes, state)
    check_guest(wishes, guest)
    return after_round(list(wishes.rankings().values()), state, wishes.guests().index(guest))


def closed_states(wishes, state):
    """Return the list of all states to which the state leads, in ascending order."""
    check_house(wishes)
    check_state(wishes, state)
    gifts = wishes.gifts()
    reached = reached_from(Turns(wishes), state)
    return sorted(reached, key=lambda other: [gifts.index(gift) for gift in other])


def shows_never(wishes, start, goal, value):
    """Return True if the value is a closed set of states with `start` and without `goal`, otherwise False."""
    check_states(wishes, start, goal)
    if not isinstance(value, (list, tuple)) or start not in value or goal in value:
        return False
    known = states(wishes)
    if not all([state in known for state in value]):
        return False
    members = {state: True for state in value}
    turns = Turns(wishes)
    return len(members) == len(value) and all([after in members for state in value for after in turns.after(state)])


def turn_table(wishes, known):
    """Return a list, for each of all the states, of the numbers of the states after a turn of each guest."""
    numbers = {state: number for number, state in enumerate(known)}
    turns = Turns(wishes)
    return [[numbers[after] for after in turns.after(state)] for state in known]


def reached_by(table):
    """Return for each state, by the table of the turns, the sum of 1 << number over the states to which it leads."""
    reached = [1 << number for number in range(len(table))]
    more = True
    while more:
        more = False
        for number, followers in enumerate(table):
            now = reached[number]
            for follower in followers:
                now = now | reached[follower]
            if now != reached[number]:
                reached[number] = now
                more = True
    return reached


def lasting(wishes):
    """Return the list of all closed sets in which each state leads to each other one, ordered by their first states."""
    known = states(wishes)
    # States lead to the same states if they lead to each other. Nothing leads out of them if those are all.
    alike = {}
    for number, reached in enumerate(reached_by(turn_table(wishes, known))):
        alike.setdefault(reached, []).append(number)
    return [[known[number] for number in numbers] for reached, numbers in alike.items()
            if sum([1 << number for number in numbers]) == reached]
