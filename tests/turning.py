"""What the tests of full houses share: states and turns from all rows and rounds, carried out without the program."""

import itertools

from helpers import Model, all_wishes, any_values, down_the_row, raised, random_wishes, seeded
from lastturn.errors import InvalidState, NotEfficient, NotFull, TooLarge
from lastturn.wishes import Wishes

A, B, C = ("kite", "lamp", "ball"), ("ball", "kite", "lamp"), ("lamp", "kite", "ball")
NO_STATE = ("ball", "lamp", "kite")


def trio():
    """Return the Wishes of the document's examples; NO_STATE is none of its states."""
    return Wishes(["ball", "kite", "lamp"], {"ann": ("kite", "ball", "lamp"), "bob": ("kite", "lamp", "ball"),
                                             "cy": ("ball", "kite", "lamp")})


def nobody():
    """Return the full house without guests."""
    return Wishes([], {})


def quarrel(count):
    """Return a full house in which all guests have the same ranking: every holding is a state."""
    gifts = ["vase", "ball", "lamp", "kite", "cup", "hat", "map"][:count]
    return Wishes(gifts, {guest: gifts[::-1] for guest in ["zoe", "ann", "moe", "bob", "cy", "dan", "eve"][:count]})


def swinging():
    """Return houses with a state and a word whose repetitions do not come to rest, each with the cycle of them."""
    found = []
    for words, state, word, cycle in (
            ("map hat pot cup,map cup hat pot,map hat pot cup,pot map hat cup", "hat map pot cup", "dan bob", (0, 2)),
            ("hat cup pot map,pot cup hat map,hat cup pot map,pot cup hat map", "map pot hat cup", "cal dan ann bob", (0, 3)),
            ("hat pot map cup,pot map hat cup,hat cup map pot,pot map hat cup", "cup map hat pot", "cal ann", (1, 2)),
            ("hat pot map rug cup,pot map hat rug cup,cup pot map hat rug,cup rug map pot hat,hat pot map cup rug",
             "hat pot cup rug map", "cal dan", (1, 4)),
            ("map pot hat cup rug,map hat cup rug pot,map pot rug hat cup,pot hat rug map cup,map rug cup pot hat",
             "pot hat rug cup map", "eve cal", (2, 3)),
            ("pot map rug hat cup,hat map cup rug pot,hat map rug cup pot,pot hat cup rug map,hat cup map rug pot",
             "map hat rug pot cup", "eve dan dan cal ann", (3, 2))):
        rankings = [ranking.split() for ranking in words.split(",")]
        guests = ["ann", "bob", "cal", "dan", "eve"][:len(rankings)]
        wishes = Wishes(["cup", "hat", "map", "pot", "rug"][:len(rankings)], dict(zip(guests, rankings)))
        found.append((wishes, tuple(state.split()), tuple(word.split()), cycle))
    return found


def small_houses():
    """Return full houses of at most three guests: all of them, or some if there are many."""
    return [nobody()] + all_wishes(1, 1) + all_wishes(2, 2) + all_wishes(3, 3)[::5] + [trio()]


def larger_houses(seed, count):
    """Return full houses of four and of five guests with rankings by chance."""
    rng = seeded(seed)
    return [random_wishes(rng, size, size) for size in (4, 5) for _ in range(count)]


def by_number(wishes, states):
    """Return the states as a sorted list."""
    return sorted(states, key=lambda state: [wishes.gifts().index(gift) for gift in state])


def turned(wishes, row, guest):
    """Return what a turn changes the holding of the row into, with every gift moved by hand."""
    model = Model(wishes.gifts())
    model.rankings = {name: list(ranking) for name, ranking in wishes.rankings().items()}
    model.row = list(row)
    model.held = down_the_row(model.gifts, model.rankings, row)
    model.table = set()
    model.turn(guest)
    return tuple(model.held[name] for name in wishes.guests())


class House:
    """All states of a full house, and where each turn leads from each row of a state."""

    def __init__(self, wishes):
        self.guests = wishes.guests()
        self.wishes = wishes
        found = {}
        for row in itertools.permutations(self.guests):
            held = down_the_row(wishes.gifts(), wishes.rankings(), row)
            found.setdefault(tuple(held[guest] for guest in self.guests), []).append(row)
        self.states = by_number(wishes, found)
        self.after = {}
        for state, rows in found.items():
            for guest in self.guests:
                # The next state depends on the state alone, so all of its rows agree.
                (self.after[state, guest],) = {turned(wishes, row, guest) for row in rows[:6] + rows[-1:]}

    def carried(self, state, word):
        """Return the state after the word."""
        for guest in word:
            state = self.after[state, guest]
        return state

    def reached(self, state):
        """Return the set of all states to which the state leads."""
        found = {state}
        while True:
            more = found | {self.after[one, guest] for one in found for guest in self.guests}
            if more == found:
                return found
            found = more

    def lasting(self):
        """Return the closed sets in which each state leads to each other one, as the interface orders them."""
        sets = []
        for state in self.states:
            reached = self.reached(state)
            if all(self.reached(other) == reached for other in reached) and by_number(self.wishes, reached) not in sets:
                sets.append(by_number(self.wishes, reached))
        return sets

    def words(self, longest):
        """Return all words of at most this length, the shorter ones first, then in ascending order."""
        return [word for length in range(longest + 1) for word in itertools.product(self.guests, repeat=length)]

    def pairs(self):
        """Return the set of the pairs that some word merges, and the set of all pairs."""
        everything = {frozenset(pair) for pair in itertools.combinations(self.states, 2)}
        merged = set()
        while True:
            more = {pair for pair in everything - merged for guest in self.guests
                    if len({self.after[state, guest] for state in pair}) == 1
                    or frozenset(self.after[state, guest] for state in pair) in merged}
            if not more:
                return merged, everything
            merged |= more


def not_full():
    """Return Wishes that are no full houses, some of them with more than five guests or gifts."""
    rng = seeded(110)
    sizes = [(0, 1), (1, 0), (2, 3), (3, 2), (5, 4), (4, 5), (5, 6), (6, 5), (7, 6), (16, 15), (0, 16), (16, 0), (9, 2)]
    return [random_wishes(rng, many, few) for many, few in sizes]


def too_large():
    """Return full houses of too many guests."""
    rng = seeded(111)
    return [random_wishes(rng, size, size) for size in (6, 7, 12, 16)]


def no_states(wishes):
    """Return values that are no tuples with each gift of the Wishes, of three or more, exactly once."""
    gifts = wishes.gifts()
    rest = tuple(gifts[1:])
    return any_values() + [
        list(gifts), rest, gifts[1:], rest + rest[:1], tuple(gifts) + rest[:1], tuple(gifts) + (None,), rest + (None,),
        rest + (True,), (True,) + rest, rest + ([gifts[0]],), rest + ((gifts[0],),), rest + (gifts[0] + " ",), (tuple(gifts),),
        rest + ({gifts[0]: gifts[0]},), (rest, gifts[0]), tuple(wishes.guests()), dict.fromkeys(gifts), gifts[0],
        dict(zip(wishes.guests(), gifts)), rest + (0,), (None,) * len(gifts), "".join(gifts), rest + ("nothing",),
    ]


def check_houses(case, function, *others):
    """Check that the function raises NotFull, then TooLarge, whatever else it is passed."""
    for wishes in not_full():
        for rest in (others, (0,) * len(others), (None,) * len(others), ((),) * len(others)):
            raised(case, NotFull, function, wishes, *rest)
    for wishes in too_large():
        for rest in (others, (0,) * len(others), ([],) * len(others), (tuple(wishes.gifts()),) * len(others)):
            case.assertEqual(raised(case, TooLarge, function, wishes, *rest).limit, 5)


def check_states(case, function, names, *others):
    """Check the errors of states, whatever the arguments after the states, of these names, are."""
    wishes = trio()
    for at in range(len(names)):
        for value in no_states(wishes):
            with case.subTest(value=value):
                # A wrong state behind this one is not looked at.
                behind = (NO_STATE, 0, [])[:len(names) - at - 1]
                raised(case, InvalidState, function, wishes, *(A,) * at, value, *behind, *others)
                named = dict(zip(names, (A,) * at + (value,) + behind))
                if not others:
                    raised(case, InvalidState, function, wishes=wishes, **named)
        for rest in (others, (None,) * len(others), (-1,) * len(others), ([0],) * len(others)):
            for behind in ((A, B), (NO_STATE, NO_STATE), (0, 0), ([], None)):
                states = (A,) * at + (NO_STATE,) + behind[:len(names) - at - 1]
                raised(case, NotEfficient, function, wishes, *states, *rest)
