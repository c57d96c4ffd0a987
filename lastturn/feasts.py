"""Feasts: histories of events that can be undone and redone."""

from lastturn.changes import add_gift, break_gift, leave
from lastturn.errors import InvalidEvent, OutOfRange, TooLarge, UnknownGift, UnknownGuest
from lastturn.names import is_number
from lastturn.parties import Party, owners_of
from lastturn.rounds import arrive, turn
from lastturn.wishes import Wishes

EVENTS = 200

# How many items an event has, by its first word.
ITEMS = {"arrive": 3, "turn": 2, "leave": 2, "add": 3, "break": 2}


def has_form(event):
    """Return True if the value has the first word and the number of items of an event, otherwise False."""
    return (isinstance(event, (list, tuple)) and len(event) > 0 and isinstance(event[0], str) and event[0] in ITEMS
            and len(event) == ITEMS[event[0]])


def carry_out(party, event):
    """Carry out an event of the right form. Return the new party and the takes."""
    word = event[0]
    if word == "arrive":
        return arrive(party, event[1], event[2])
    if word == "turn":
        return turn(party, event[1])
    if word == "leave":
        return leave(party, event[1])
    if word == "add":
        return add_gift(party, event[1], event[2])
    return break_gift(party, event[1])


def own_copy(event, guests):
    """Return a copy of a valid event, a tuple: the ranking of an arrival a tuple, places a dict in guest order."""
    if event[0] == "arrive":
        return "arrive", event[1], tuple(event[2])
    if event[0] == "add":
        return "add", event[1], {guest: event[2][guest] for guest in guests}
    return tuple(event)


def gift_status(party, gift, before):
    """Return the status (word, guest) of the gift at a party, None before it exists; `before` is the status before."""
    owners = owners_of(party.holding())
    if gift in owners:
        return "held", owners[gift]
    if gift in party.table():
        return "table", None
    return None if before is None else ("broken", None)


def guest_status(party, guest, before):
    """Return the status (word, gift) of the guest at a party, None before they come; `before` is the status before."""
    holding = party.holding()
    if guest not in holding:
        return None if before is None else ("left", None)
    if holding[guest] is None:
        return "without", None
    return "holds", holding[guest]


def story(parties, name, status_at):
    """Return the list of (number, word, name) of each party at which the status differs from the one before."""
    told = []
    before = None
    for number, party in enumerate(parties):
        status = status_at(party, name, before)
        if status != before:
            told.append((number,) + status)
        before = status
    return told


class Feast:
    """A history of events that begins with these gifts and no guests."""

    def __init__(self, gifts):
        self._first = Party(Wishes(gifts, {}), ())
        # What is done: (event, takes, party after it) for each event. Each step is a number of events here, and each
        # undone one a list like that.
        self._done = []
        self._steps = []
        self._undone = []

    def __len__(self):
        return len(self._done)

    def __eq__(self, other):
        return isinstance(other, Feast) and self.opening() == other.opening() and self.events() == other.events()

    def do(self, event):
        """Do an event as one step. Return its takes."""
        return self.run([event])[0]

    def run(self, events):
        """Do these events as one step: all of them, or none. Return the list of the takes of each event."""
        if not isinstance(events, (list, tuple)):
            raise InvalidEvent(-1)
        party = self.party()
        done = []
        for number, event in enumerate(events):
            if not has_form(event):
                raise InvalidEvent(number)
            if len(self._done) + number >= EVENTS:
                raise TooLarge(EVENTS)
            guests = party.wishes().guests()
            party, takes = carry_out(party, event)
            done.append((own_copy(event, guests), takes, party))
        if done:
            self._done.extend(done)
            self._steps.append(len(done))
            self._undone = []
        return [list(takes) for _, takes, _ in done]

    def undo(self):
        """Undo the latest step. Return True, or False if there is none."""
        if not self._steps:
            return False
        start = len(self._done) - self._steps.pop()
        self._undone.append(self._done[start:])
        del self._done[start:]
        return True

    def redo(self):
        """Do the step again that was undone last. Return True, or False if there is none."""
        if not self._undone:
            return False
        step = self._undone.pop()
        self._done.extend(step)
        self._steps.append(len(step))
        return True

    def parties(self):
        """Return the list of the parties after each number of events, from 0 on."""
        return [self._first] + [party for _, _, party in self._done]

    def party(self):
        """Return the Party now."""
        return self._done[-1][2] if self._done else self._first

    def opening(self):
        """Return the list of the gifts at the start."""
        return self._first.wishes().gifts()

    def events(self):
        """Return the list of the events in effect, tuples; rankings are tuples, and places are dicts in guest order."""
        return [tuple([dict(item) if isinstance(item, dict) else item for item in event]) for event, _, _ in self._done]

    def past(self, number):
        """Return the Party after this number of events."""
        if not is_number(number, len(self._done)):
            raise OutOfRange(number)
        return self.parties()[number]

    def takes_of(self, number):
        """Return the takes of the event with this number."""
        if not is_number(number, len(self._done) - 1):
            raise OutOfRange(number)
        return list(self._done[number][1])

    def gift_story(self, gift):
        """Return the story of the gift: a list of tuples (number, status, guest)."""
        if not any([gift in party.wishes().gifts() for party in self.parties()]):
            raise UnknownGift(gift)
        return story(self.parties(), gift, gift_status)

    def guest_story(self, guest):
        """Return the story of the guest: a list of tuples (number, status, gift)."""
        if not any([guest in party.wishes().guests() for party in self.parties()]):
            raise UnknownGuest(guest)
        return story(self.parties(), guest, guest_status)

    def log(self):
        """Return the list of (kind, guest, takes) of the events, or None if one is neither an arrival nor a turn."""
        if not all([event[0] in ("arrive", "turn") for event, _, _ in self._done]):
            return None
        return [(event[0], event[1], list(takes)) for event, takes, _ in self._done]

    def twin(self):
        """Return an independent feast with the same events, steps and undone steps."""
        other = Feast(self.opening())
        other._done = list(self._done)
        other._steps = list(self._steps)
        other._undone = list(self._undone)
        return other
