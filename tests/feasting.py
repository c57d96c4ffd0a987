"""What the tests of feasts, texts and desks share: events by chance, and a diary that carries all out anew."""

from helpers import MANY_GIFTS, MANY_GUESTS, any_values, snapshot
from lastturn.changes import add_gift, break_gift, leave
from lastturn.parties import Party
from lastturn.rounds import arrive, turn
from lastturn.wishes import Wishes

CARRY = {"arrive": arrive, "turn": turn, "leave": leave, "add": add_gift, "break": break_gift}


def random_event(rng, party, kinds=("arrive", "arrive", "turn", "turn", "leave", "add", "break")):
    """Return an event by chance; most of them can be done at this party."""
    wishes = party.wishes()
    gifts, guests = wishes.gifts(), wishes.guests()
    kind = rng.choice(kinds)
    if kind == "arrive":
        return kind, rng.choice(MANY_GUESTS[:6]), tuple(rng.sample(gifts, len(gifts)))
    if kind == "add":
        return kind, rng.choice(MANY_GIFTS[:6]), {guest: rng.randrange(len(gifts) + 1) for guest in guests}
    return kind, rng.choice((gifts if kind == "break" else guests) or MANY_GUESTS)


def possible_event(rng, party, *kinds):
    """Return an event by chance that can be done at this party."""
    while True:
        event = random_event(rng, party, *kinds)
        try:
            CARRY[event[0]](party, *event[1:])
        except (KeyError, ArithmeticError):
            continue
        return event


def carried(gifts, events):
    """Return the parties after each number of events, and the takes of each event."""
    party = Party(Wishes(gifts, {}), ())
    parties, takes = [party], []
    for event in events:
        party, more = CARRY[event[0]](party, *event[1:])
        parties.append(party)
        takes.append(more)
    return parties, takes


class Diary:
    """The steps in effect and the undone ones; everything else is carried out anew from the events."""

    def __init__(self, gifts):
        self.gifts = list(gifts)
        self.steps = []
        self.undone = []

    def add(self, events):
        if events:
            self.steps.append(list(events))
            self.undone = []

    def move(self, one, other):
        if not one:
            return False
        other.append(one.pop())
        return True

    def undo(self):
        return self.move(self.steps, self.undone)

    def redo(self):
        return self.move(self.undone, self.steps)

    def events(self):
        return [event for step in self.steps for event in step]


def gift_story(parties, gift):
    """Return the story of a gift, from the parties."""
    told = []
    for number, party in enumerate(parties):
        holders = [guest for guest, held in party.holding().items() if held == gift]
        if gift in party.wishes().gifts():
            told.append((number, "held", holders[0]) if holders else (number, "table", None))
        elif told:
            told.append((number, "broken", None))
    return changes(told)


def guest_story(parties, guest):
    """Return the story of a guest, from the parties."""
    told = []
    for number, party in enumerate(parties):
        if guest in party.wishes().guests():
            gift = party.holding()[guest]
            told.append((number, "without", None) if gift is None else (number, "holds", gift))
        elif told:
            told.append((number, "left", None))
    return changes(told)


def changes(told):
    """Return the statuses that differ from the ones before."""
    return [item for at, item in enumerate(told) if at == 0 or item[1:] != told[at - 1][1:]]


def no_events():
    """Return values that do not have the first word and the number of items of an event."""
    return any_values() + [
        "arrive", ["arrive"], ("arrive", "ann"), ("arrive", "ann", ("lamp",), None), ("turn",), ("turn", "ann", None), ("leave",),
        ("leave", "ann", "ann"), ("add", "lamp"), ("add", "lamp", {}, None), ("break",), ("break", "lamp", None), ["break"],
        ("come", "ann", ()), ("Arrive", "ann", ()), ("arrives", "ann", ()), ("", "ann"), (None, "ann"), (True, "ann"),
        (["turn"], "ann"), (("turn",), "ann"), ({"turn": "ann"}, "ann"), ("undo",), ("turn ann",), {"turn": "ann"},
        [("turn", "ann")], (("arrive", "ann", ()),), ("ann", "turn"), ("lamp", "break"), ("redo", "ann"), ("add_gift", "lamp", {}),
    ]


def told(feast):
    """Return all that a feast tells, and its steps by undoing and redoing all of them in a twin."""
    parties = [snapshot(feast.past(number)) for number in range(len(feast) + 1)]
    takes = [feast.takes_of(number) for number in range(len(feast))]
    other = feast.twin()
    forward = [len(other)]
    while other.redo():
        forward.append((len(other), repr(other.events())))
    backward = []
    while other.undo():
        backward.append((len(other), repr(other.events())))
    return (feast.opening(), repr(feast.events()), parties, takes, feast.log(), snapshot(feast.party()), forward, backward)
