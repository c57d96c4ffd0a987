"""What the tests of logs share: logs by chance, logs with changed parts, and a second check of point 56."""

from helpers import MANY_GIFTS, MANY_GUESTS, Model, any_values, raised, same_kind, seeded
from lastturn.errors import InvalidGifts, InvalidLog, TooLarge, UnknownGuest
from lastturn.logs import check_log

G = ["ball", "kite", "lamp"]
L = [("arrive", "ann", [("ann", "kite", None)]), ("arrive", "bob", [("bob", "kite", "ann"), ("ann", "ball", None)]),
     ("arrive", "cy", [("cy", "ball", "ann"), ("ann", "kite", "bob"), ("bob", "lamp", None)])]
# In the last turn the map that cal had is offered: ann takes it, and bob takes the rug that ann had.
OFFERED_GIFTS = ["cup", "hat", "map", "pot", "rug"]
OFFERED = [
    ("arrive", "ann", [("ann", "cup", None)]), ("arrive", "bob", [("bob", "rug", None)]),
    ("arrive", "cal", [("cal", "cup", "ann"), ("ann", "map", None)]),
    ("arrive", "dan", [("dan", "cup", "cal"), ("cal", "map", "ann"), ("ann", "rug", "bob"), ("bob", "hat", None)]),
    ("turn", "cal", [("cal", "cup", "dan"), ("dan", "pot", None), ("ann", "map", None), ("bob", "rug", None)]),
]
# For ann the rug is better than the cup (event 3), and the cup than the hat (event 5), but both times one of rug and hat
# is taken before, so that nothing compares these two.
STEPS = [
    ("arrive", "ann", [("ann", "pot", None)]), ("arrive", "bob", [("bob", "rug", None)]),
    ("arrive", "cal", [("cal", "hat", None)]),
    ("arrive", "dan", [("dan", "hat", "cal"), ("cal", "pot", "ann"), ("ann", "rug", "bob"), ("bob", "map", None)]),
    ("turn", "ann", [("ann", "pot", "cal"), ("cal", "hat", "dan"), ("dan", "cup", None), ("bob", "rug", None)]),
    ("arrive", "eve", [("eve", "rug", "bob"), ("bob", "pot", "ann"), ("ann", "cup", "dan"), ("dan", "hat", "cal"),
                       ("cal", "map", None)]),
]
# A guest who ranks the gifts anew likes another one best, so the comparisons of ann form a ring.
TWISTED = [("arrive", "ann", [("ann", "ball", None)]), ("turn", "ann", [("ann", "kite", None)]),
           ("turn", "ann", [("ann", "lamp", None)]), ("turn", "ann", [("ann", "ball", None)])]


def random_log(rng, gift_count, guest_count, event_count, fickle=0.0):
    """Return gifts, a valid log, and the model after it; a fickle guest has new rankings now and then."""
    gifts = rng.sample(MANY_GIFTS, gift_count)
    waiting = rng.sample(MANY_GUESTS, guest_count)
    model = Model(gifts)
    log = []
    while len(log) < event_count and (waiting or model.row):
        if waiting and (not model.row or rng.random() < 0.5):
            guest = waiting.pop()
            takes = model.arrive(guest, rng.sample(gifts, gift_count))
            log.append(("arrive", guest, takes))
        else:
            guest = rng.choice(model.row)
            if rng.random() < fickle:
                model.rankings[guest] = rng.sample(gifts, gift_count)
            log.append(("turn", guest, model.turn(guest)))
    return gifts, log, model


def as_lists(value):
    """Return a copy of the value with lists in the place of tuples."""
    return [as_lists(item) for item in value] if isinstance(value, (list, tuple)) else value


def places(log, depth=1):
    """Return (list, index, depth) of all that a log of lists has at depth 1 to 4: events, parts, takes, items."""
    found = []
    for at, item in enumerate(log):
        found.append((log, at, depth))
        if isinstance(item, list) and depth < 4:
            found += places(item, depth + 1)
    return found


def other_part(rng, gifts, log, at, depth):
    """Return a value that may stand at this place of a log, or any value."""
    guests = [event[1] for event in log if isinstance(event, list) and len(event) > 1 and isinstance(event[1], str)]
    names = guests + rng.sample(MANY_GUESTS, 2)
    if depth == 2 and at < 2:
        return rng.choice(("arrive", "turn") if at == 0 else names)
    if depth == 4:
        return rng.choice((names, gifts + [None], names + [None] * 3)[min(at, 2)])
    return rng.choice(any_values())


def changed(rng, gifts, log):
    """Return the log, as lists, with a part changed, removed, doubled, added or put in another place."""
    log = as_lists(log)
    held, at, depth = rng.choice(places(log) or [(log, 0, 1)])
    way = rng.random()
    if not log:
        log.append(["turn", "pa", []])
    elif depth == 2 and isinstance(held[at], list) and way < 0.6:
        held[at].append([other_part(rng, gifts, log, item, 4) for item in range(3)])
    elif depth in (1, 3) and way < 0.3:
        del held[at]
    elif depth in (1, 3) and way < 0.5:
        held.insert(rng.randrange(len(held) + 1), as_lists(held[at]))
    elif depth in (1, 3) and way < 0.8:
        other = rng.randrange(len(held))
        held[at], held[other] = held[other], held[at]
    else:
        held[at] = other_part(rng, gifts, log, at, depth)
    return log


def is_list(value, length=None):
    return type(value) in (list, tuple) and length in (None, len(value))


class Account:
    """A second check of point 56, with every gift moved by hand."""

    def __init__(self, gifts):
        self.gifts = list(gifts)
        self.held = {}
        self.row = []
        self.table = list(gifts)
        self.shown = {}

    def show(self, guest, better, worse, event):
        self.shown.setdefault(guest, {}).setdefault((better, worse), event)

    def carry(self, number, event):
        """Carry out the event if a valid log can have it; return whether it can."""
        if not is_list(event, 3) or not is_list(event[2]) or not all(is_list(take, 3) for take in event[2]):
            return False
        kind, guest, takes = event
        names = type(guest) is str and guest.isascii() and guest.isalpha() and guest.islower() and len(guest) < 9
        if type(kind) is not str or kind not in ("arrive", "turn") or not names:
            return False
        if kind == "arrive":
            if guest in self.held or len(self.held) == 16:
                return False
            self.held[guest] = None
            self.row.append(guest)
            self.shown[guest] = {}
        elif guest not in self.held:
            return False
        laid = self.held[guest]
        self.held[guest] = None
        if laid is not None:
            self.table.append(laid)
        rest = [tuple(take) for take in takes]
        if not self.round(number, guest, rest):
            return False
        return not rest if laid not in self.table else self.offer(number, laid, rest)

    def round(self, number, guest, takes):
        """Carry out the takes of the round and remove them from the list."""
        taken, takers = [], []
        while True:
            if not takes or takes[0][0] != guest:
                return False
            _, gift, source = takes.pop(0)
            takers.append(guest)
            if sorted(taken) == sorted(self.gifts):
                if (gift, source) != (None, None):
                    return False
                break
            if not any(gift == other for other in self.gifts) or gift in taken:
                return False
            taken.append(gift)
            for other in self.gifts:
                if other not in taken:
                    self.show(guest, gift, other, number)
            if gift in self.table:
                if source is not None:
                    return False
                self.table.remove(gift)
                self.held[guest] = gift
                break
            owner = [other for other in self.held if self.held[other] == gift]
            if [source] != owner:
                return False
            self.held[source] = None
            self.held[guest] = gift
            guest = source
        self.takers = takers
        self.row = takers + [other for other in self.row if other not in takers]
        return True

    def offer(self, number, gift, takes):
        """Carry out the takes of the offer."""
        for guest in self.row:
            own = self.held[guest]
            if takes and takes[0][0] == guest:
                if takes.pop(0)[1:] != (gift, None) or guest in self.takers:
                    return False
                self.table.remove(gift)
                self.held[guest] = gift
                if own is None:
                    return not takes
                self.table.append(own)
                self.show(guest, gift, own, number)
                gift = own
            elif own is None:
                return False
            else:
                self.show(guest, own, gift, number)
        return not takes


def account_of(gifts, log):
    """Return the number of the first invalid event or None, and the Account up to there."""
    account = Account(gifts)
    for number, event in enumerate(log):
        if number == 200 or not account.carry(number, event):
            return number, account
    return None, account


def closure(pairs):
    """Return all pairs (better, worse) that follow from these."""
    pairs = set(pairs)
    while True:
        more = {(one, other) for one, middle in pairs for third, other in pairs if middle == third} - pairs
        if not more:
            return pairs
        pairs |= more


def no_gifts():
    """Return values that are no sequences of different names."""
    return [value for value in any_values() if not is_list(value) or not all(
        is_list(value) and type(item) is str and item.isalpha() and item.isascii() and item.islower() and len(item) < 9
        for item in value) or len(set(value)) < len(value)] + [
        ["ball", "kite", "ball"], ("ball", "Kite"), ["ball", ""], ["ball", None], ["ball", ["kite"]], ["ball", {}], "ball",
        {"ball": 1}, ("ball", ("kite",)), ["ball", "kite", "lamplight"], [0], ["ball", True]]


def many_gifts():
    """Return too many gifts."""
    return MANY_GIFTS[:17]


def no_logs():
    """Return values that are no valid logs of G, each with the number of the first invalid event."""
    wrong = [(value, 0 if is_list(value) else -1) for value in any_values() if value not in ((), [])]
    for at in range(3):
        wrong += [(L[:at] + [value] + L[at + 1:], at) for value in any_values()]
        for part in range(3):
            for value in any_values():
                event = list(L[at])
                event[part] = value
                wrong.append((tuple(L[:at]) + (event,) + tuple(L[at + 1:]), at))
    for value in any_values():
        for part in range(3):
            if value is None and part == 2:
                continue
            take = ["ann", "kite", None]
            take[part] = value
            wrong.append(([("arrive", "ann", [take])] + L[1:], 0))
        wrong.append(([("arrive", "ann", [value])], 0))
        wrong.append((L + [("turn", "ann", [value])], 3))
        wrong.append((L + [("turn", "ann", [("ann", "kite", None), value])], 3))
    return wrong


def check_log_errors(case, function, *others, **named):
    """Check the errors of gifts and logs, whatever else the function is passed."""
    wrong = ([],) * len(others), (None,) * len(others), others
    for rest in wrong:
        for value in no_gifts():
            with case.subTest(value=value):
                raised(case, InvalidGifts, function, value, L, *rest)
                raised(case, InvalidGifts, function, value, 0, *rest)
        case.assertEqual(raised(case, TooLarge, function, many_gifts(), [], *rest).limit, 16)
        case.assertEqual(raised(case, TooLarge, function, many_gifts(), "log", *rest).limit, 16)
    for value, event in no_logs():
        with case.subTest(value=value):
            for rest in wrong[::2]:
                error = raised(case, InvalidLog, function, G, value, *rest)
                case.assertTrue(same_kind(error.event, event))
    case.assertEqual(check_log(G, L[::-1]), 0)
    case.assertEqual(raised(case, InvalidLog, function, log=L[::-1], gifts=G, **named).event, 0)
    case.assertEqual(raised(case, InvalidLog, function, log=None, gifts=G, **named).event, -1)
    raised(case, InvalidGifts, function, log=None, gifts=0, **named)
    long = [("arrive", "ann", [("ann", "kite", None)])] + [("turn", "ann", [("ann", "kite", None)])] * 200
    case.assertEqual(raised(case, InvalidLog, function, G, long, *others).event, 200)


def some_logs(seed, count, fickle):
    """Return gifts, logs and Accounts of logs by chance."""
    rng = seeded(seed)
    found = []
    for _ in range(count):
        gifts, log, _ = random_log(rng, rng.randrange(1, 7), rng.randrange(1, 5), rng.randrange(14), fickle)
        found.append((gifts, log, account_of(gifts, log)[1]))
    return found


def is_twisted(pairs):
    """Return True if the comparisons are contradictory."""
    return any(one == other for one, other in closure(pairs))


def no_guests(*guests):
    """Return values that are not among these guests."""
    values = any_values() + ["eve", "kite", ["ann"], ("ann",), {"ann": 1}, "ann ", [[]], None]
    return [value for value in values if value not in guests]


def check_guests(case, function, *others, **named):
    """Check that the function raises UnknownGuest for every value that is no guest, whatever else it is passed."""
    for value in no_guests("ann", "bob", "cy"):
        with case.subTest(value=value):
            for gifts, log in ((G, L), (G, TWISTED), (G, []), ([], [])):
                for rest in (others, (None,) * len(others), ([],) * len(others)):
                    error = raised(case, UnknownGuest, function, gifts, log, value, *rest)
                    case.assertTrue(same_kind(error.guest, value))
            error = raised(case, UnknownGuest, function, guest=value, log=L, gifts=G, **named)
            case.assertTrue(same_kind(error.guest, value))
    for guest in ("bob", "cy"):
        case.assertEqual(raised(case, UnknownGuest, function, G, L[:1], guest, *others).guest, guest)
