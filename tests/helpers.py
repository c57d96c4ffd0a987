"""What several tests share: values of every kind, small worlds, and a second carrying-out of the events."""

import copy
import itertools
import random

from lastturn.parties import Party
from lastturn.wishes import Wishes

ALPHABET = "abcdefghijklmnopqrstuvwxyz"
MANY_GIFTS = ["g" + letter for letter in ALPHABET]
MANY_GUESTS = ["p" + letter for letter in ALPHABET]


def nested(value, depth, wrap):
    """Return the value inside this many lists, tuples or dicts."""
    for _ in range(depth):
        value = wrap(value)
    return value


def any_values():
    """Return new values of every kind that point 2 calls any value; none of them is a name."""
    return [
        0, 1, -1, 2, 7, 10 ** 61 - 1, 1 - 10 ** 61, True, False, None,
        "", " ", "Ann", "ANN", "ann ", " ann", "ann\n", "\nann", "a b", "a-b", "a_b", "a1", "1", "abcdefghi", "-",
        "\u00e9", "\uff41", "\u0430nn", "\u00df", "a" * 100, "gifts lamp\nguest ann lamp",
        (), [], {}, ("ann",), ["ann"], ["ann", "bob", "cy", "dan"], (None, None), [True, False], ("ann", ["bob"]),
        [["ann", "bob"]], (("ann", "bob"),), [{}, {}], [0, 1], ("lamp", 1), ["lamp", None], ["lamp", ["vase"]],
        ["ann", "ann"], ("lamp", "lamp"), ["lamp", "vase", "lamp"],
        {"ann": None, "bob": None, "zoe": None}, {"lamp": 0, "vase": 1}, {0: "ann", 1: "bob"}, {None: None},
        {True: False}, {("ann", 1): ["bob"]}, {(): {}}, {"": ""},
        nested("ann", 10, lambda value: [value]), nested("ann", 10, lambda value: (value,)),
        nested(None, 10, lambda value: {"ann": value}), nested((), 5, lambda value: [{1: value}]),
    ]


def raised(case, error, function, *args, **named):
    """Return the error of this very class that the call raises; the call must not modify its arguments."""
    plain = [value for value in list(args) + list(named.values()) if is_plain(value)]
    before = copy.deepcopy(plain)
    with case.assertRaises(error) as caught:
        function(*args, **named)
    case.assertIs(type(caught.exception), error)
    case.assertEqual(plain, before)
    return caught.exception


def is_plain(value):
    """Return True if the value has no objects of the program in it."""
    if isinstance(value, dict):
        return all(is_plain(item) for pair in value.items() for item in pair)
    if isinstance(value, (list, tuple)):
        return all(is_plain(item) for item in value)
    return value is None or isinstance(value, (int, str))


def same_kind(one, other):
    """Return True if two values are equal and True differs from 1 in them."""
    return one == other and repr(one) == repr(other)


def random_wishes(rng, gift_count, guest_count):
    """Return Wishes with rankings by chance; the orders of gifts and guests are not alphabetical."""
    gifts = rng.sample(MANY_GIFTS, gift_count)
    guests = rng.sample(MANY_GUESTS, guest_count)
    # Guests who like much the same gifts take from each other more often.
    spread = rng.choice((2, 5, 100))
    popular = rng.sample(gifts, gift_count)
    rankings = {}
    for guest in guests:
        worth = {gift: place + rng.random() * spread for place, gift in enumerate(popular)}
        rankings[guest] = tuple(sorted(popular, key=worth.get))
    return Wishes(gifts, rankings)


def random_party(rng, gift_count, guest_count):
    """Return a party with rankings and a row by chance."""
    wishes = random_wishes(rng, gift_count, guest_count)
    return Party(wishes, rng.sample(wishes.guests(), guest_count))


def all_wishes(gift_count, guest_count):
    """Return all Wishes with this many gifts and guests, in an order that is not alphabetical."""
    gifts = ["lamp", "vase", "ball", "kite"][:gift_count]
    guests = ["cy", "ann", "bob", "dan"][:guest_count]
    rankings = list(itertools.permutations(gifts))
    return [Wishes(gifts, dict(zip(guests, chosen))) for chosen in itertools.product(rankings, repeat=guest_count)]


def small_parties():
    """Return all parties with at most three gifts and two guests, or two gifts and three guests."""
    sizes = [(many, few) for many in range(4) for few in range(3)] + [(many, 3) for many in range(3)]
    return [Party(wishes, row) for many, few in sizes for wishes in all_wishes(many, few)
            for row in itertools.permutations(wishes.guests())]


def down_the_row(gifts, rankings, row):
    """Choose down a row (point 13), written without the program."""
    holding = dict.fromkeys(rankings)
    for place, guest in enumerate(row):
        gone = {holding[other] for other in row[:place]}
        free = [gift for gift in rankings[guest] if gift not in gone]
        holding[guest] = free[0] if free else None
    return holding


class Model:
    """A second carrying-out of points 15 to 22: every gift is moved by hand, and nobody chooses down the row."""

    def __init__(self, gifts):
        self.gifts = list(gifts)
        self.rankings = {}
        self.row = []
        self.held = {}
        self.table = set(gifts)

    def worth(self, guest, gift):
        """Return how low the gift stands for the guest; None is below all gifts."""
        ranking = self.rankings[guest]
        return len(ranking) if gift is None else ranking.index(gift)

    def owner(self, gift):
        """Return who holds the gift."""
        owners = [guest for guest in self.held if self.held[guest] == gift]
        return owners[0] if owners else None

    def lay(self, guest):
        """Lay the gift of the guest, if any, on the table, and return it."""
        gift = self.held[guest]
        self.held[guest] = None
        if gift is not None:
            self.table.add(gift)
        return gift

    def carry_round(self, first):
        """Carry out a round (points 15 and 16) and return its takes."""
        takes = []
        taken = set()
        taker = first
        while True:
            open_gifts = [gift for gift in self.rankings[taker] if gift not in taken]
            if not open_gifts:
                takes.append((taker, None, None))
                break
            gift = open_gifts[0]
            taken.add(gift)
            if gift in self.table:
                self.table.remove(gift)
                self.held[taker] = gift
                takes.append((taker, gift, None))
                break
            source = self.owner(gift)
            self.held[source] = None
            self.held[taker] = gift
            takes.append((taker, gift, source))
            taker = source
        takers = [take[0] for take in takes]
        self.row = takers + [guest for guest in self.row if guest not in takers]
        return takes

    def offer(self, gift):
        """Offer a gift that lies on the table down the row (point 17) and return the takes."""
        takes = []
        for guest in self.row:
            own = self.held[guest]
            if self.worth(guest, gift) >= self.worth(guest, own):
                continue
            self.lay(guest)
            self.table.remove(gift)
            self.held[guest] = gift
            takes.append((guest, gift, None))
            if own is None:
                break
            gift = own
        return takes

    def arrive(self, guest, ranking):
        self.rankings[guest] = list(ranking)
        self.held[guest] = None
        return self.carry_round(guest)

    def turn(self, guest):
        laid = self.lay(guest)
        takes = self.carry_round(guest)
        if laid in self.table:
            takes = takes + self.offer(laid)
        return takes

    def leave(self, guest):
        gift = self.lay(guest)
        del self.rankings[guest], self.held[guest]
        self.row.remove(guest)
        return [] if gift is None else self.offer(gift)

    def add(self, gift, places):
        self.gifts.append(gift)
        for guest in self.rankings:
            self.rankings[guest].insert(places[guest], gift)
        self.table.add(gift)
        return self.offer(gift)

    def break_gift(self, gift):
        loser = self.owner(gift)
        self.gifts.remove(gift)
        self.table.discard(gift)
        for ranking in self.rankings.values():
            ranking.remove(gift)
        takes = []
        while loser is not None:
            self.held[loser] = None
            ahead = self.row[:self.row.index(loser)]
            free = [other for other in self.rankings[loser] if self.owner(other) not in ahead]
            wanted = free[0] if free else None
            source = None if wanted is None else self.owner(wanted)
            self.table.discard(wanted)
            self.held[loser] = wanted
            takes.append((loser, wanted, source))
            loser = source
        return takes


def model_of(party):
    """Return a Model in the state of the party."""
    wishes = party.wishes()
    model = Model(wishes.gifts())
    model.rankings = {guest: list(ranking) for guest, ranking in wishes.rankings().items()}
    model.row = list(party.row())
    model.held = down_the_row(model.gifts, model.rankings, model.row)
    model.table = {gift for gift in model.gifts if gift not in model.held.values()}
    return model


def snapshot(party):
    """Return all that a party tells."""
    wishes = party.wishes()
    return (wishes.gifts(), wishes.guests(), list(wishes.rankings().items()), party.row(),
            list(party.holding().items()), party.table())


def check_same(case, party, model):
    """Check that the party is in the state of the model, and that its row explains it (point 4)."""
    rankings = [(guest, tuple(ranking)) for guest, ranking in model.rankings.items()]
    held = [(guest, model.held[guest]) for guest in model.rankings]
    table = [gift for gift in model.gifts if gift in model.table]
    case.assertEqual(snapshot(party), (model.gifts, list(model.rankings), rankings, tuple(model.row), held, table))
    case.assertEqual(dict(held), down_the_row(model.gifts, model.rankings, model.row))


def check_event(case, party, function, args, carried, *model_args):
    """Check an event against a method of the model; return the new party."""
    before = snapshot(party)
    kept = copy.deepcopy(args)
    model = model_of(party)
    result = function(party, *args)
    case.assertIs(type(result), tuple)
    after, takes = result
    case.assertIs(type(after), Party)
    case.assertIs(type(takes), list)
    case.assertEqual(takes, getattr(model, carried)(*(model_args or args)))
    case.assertTrue(all(type(take) is tuple for take in takes))
    check_same(case, after, model)
    case.assertEqual(snapshot(party), before)
    case.assertEqual(args, kept)
    return after


def seeded(seed):
    """Return numbers by chance that are the same in every run."""
    return random.Random(seed)
