"""What the tests of holdings share: all holdings and rows of small parties, and holdings that are none."""

import itertools

from helpers import MANY_GIFTS, MANY_GUESTS, all_wishes, any_values, down_the_row, raised, random_wishes, same_kind, seeded
from lastturn.errors import InvalidHolding
from lastturn.wishes import Wishes


def three():
    """Return the Wishes of the document's examples."""
    return Wishes(["cup", "hat", "map"], {"ann": ("cup", "hat", "map"), "bob": ("cup", "map", "hat"),
                                          "cal": ("hat", "cup", "map")})


def jumbled():
    """Return Wishes of three guests and four gifts, none of them in alphabetical order."""
    return Wishes(["vase", "ball", "lamp", "kite"], {"zoe": ("kite", "vase", "ball", "lamp"),
                                                     "ann": ("kite", "lamp", "vase", "ball"),
                                                     "moe": ("lamp", "kite", "ball", "vase")})


def crowd(guest_count, gift_count=1):
    """Return Wishes of many guests who all have the same ranking."""
    gifts = MANY_GIFTS[:gift_count]
    return Wishes(gifts, {guest: gifts for guest in MANY_GUESTS[:guest_count]})


def circle(count):
    """Return Wishes and a holding that one ring of all guests improves, and nothing else does."""
    gifts, guests = MANY_GIFTS[:count], MANY_GUESTS[:count]
    rankings = {}
    for at, guest in enumerate(guests):
        first = [gifts[(at + 5) % count], gifts[at]]
        rankings[guest] = first + [gift for gift in gifts if gift not in first]
    return Wishes(gifts, rankings), dict(zip(guests, gifts))


def place(names, name):
    """Return the number of a name; None comes after all names."""
    return len(names) if name is None else names.index(name)


def prefers(wishes, guest, one, other):
    """Return True if the guest prefers one of these gifts (or None) to the other one."""
    return place(wishes.ranking(guest), one) < place(wishes.ranking(guest), other)


def all_holdings(wishes):
    """Return all holdings, efficient or not, sorted as point 12 says."""
    gifts, guests = wishes.gifts(), wishes.guests()
    numbers = sorted(set(itertools.permutations(list(range(len(gifts))) + [len(gifts)] * len(guests), len(guests))))
    return [dict(zip(guests, [(gifts + [None])[number] for number in chosen])) for chosen in numbers]


def all_rows(wishes):
    """Return a list of all rows with their holdings, in ascending order, without use of the program."""
    found = []
    for row in itertools.permutations(wishes.guests()):
        holding = down_the_row(wishes.gifts(), wishes.rankings(), row)
        found.append((row, {guest: holding[guest] for guest in wishes.guests()}))
    return found


def rows_of(wishes, holding):
    """Return all rows of the holding, in ascending order."""
    return [row for row, reached in all_rows(wishes) if reached == holding]


def small_wishes():
    """Return Wishes with at most three guests and gifts: all of them, or some if there are many."""
    sizes = [(many, few) for many in range(4) for few in range(3)] + [(0, 3), (1, 3), (2, 3)]
    return [wishes for many, few in sizes for wishes in all_wishes(many, few)] + all_wishes(3, 3)[::7]


def some_wishes(seed, *sizes):
    """Return Wishes by chance with these numbers of gifts and guests."""
    rng = seeded(seed)
    return [random_wishes(rng, many, few) for many, few in sizes]


def random_holding(rng, wishes):
    """Return a holding by chance, mostly not an efficient one."""
    guests = wishes.guests()
    chosen = rng.sample(wishes.gifts() + [None] * rng.choice((0, 1, len(guests))) + [None] * len(guests), len(guests))
    return dict(zip(guests, chosen))


def turned_over(holding):
    """Return an equal dict with its keys in the opposite order."""
    return dict(reversed(holding.items()))


def envies(wishes, holding, guest, other):
    """Return True if the guest envies the other one (point 30)."""
    return holding[other] is not None and prefers(wishes, guest, holding[other], holding[guest])


def all_improvements(wishes, holding):
    """Return all improvements of the holding, as point 31 describes them."""
    guests = wishes.guests()
    table = [gift for gift in wishes.gifts() if gift not in holding.values()]
    found = [("table", guest, gift) for guest in guests for gift in table
             if prefers(wishes, guest, gift, holding[guest])]
    for many in range(2, len(guests) + 1):
        for ring in itertools.permutations(guests, many):
            if all(envies(wishes, holding, guest, ring[(at + 1) % many]) for at, guest in enumerate(ring)):
                found.append(("ring", ring))
    return found


def carried_out(holding, step):
    """Carry out an improvement: every guest of it takes what it says."""
    after = dict(holding)
    if step[0] == "table":
        after[step[1]] = step[2]
    else:
        for guest, ahead in zip(step[1], step[1][1:] + step[1][:1]):
            after[guest] = holding[ahead]
    return after


def check_improves(case, wishes, holding, step):
    """Check that the value is an improvement; return the holding after it."""
    case.assertIs(type(step), tuple)
    if step[0] == "table":
        case.assertEqual(len(step), 3)
        case.assertNotIn(step[2], list(holding.values()))
        case.assertIn(step[2], wishes.gifts())
        takers = [step[1]]
    else:
        case.assertEqual((step[0], len(step), type(step[1])), ("ring", 2, tuple))
        case.assertGreaterEqual(len(step[1]), 2)
        case.assertEqual(len(set(step[1])), len(step[1]))
        takers = step[1]
    after = carried_out(holding, step)
    for guest in wishes.guests():
        if guest in takers:
            case.assertTrue(prefers(wishes, guest, after[guest], holding[guest]))
        else:
            case.assertEqual(after[guest], holding[guest])
    held = [gift for gift in after.values() if gift is not None]
    case.assertEqual(len(held), len(set(held)))
    return after


def wrong_holdings(guests, gifts):
    """Return values that are no holdings, each with the guest of the error; two or more guests and a gift are given."""
    first, second = guests[:2]
    whole = dict.fromkeys(guests)
    rest = {guest: None for guest in guests[1:]}
    wrong = [(value, None) for value in any_values() + [
        rest, {**whole, "nobody": None}, {**rest, "nobody": None}, {**rest, None: None}, {**whole, None: None},
        {**rest, (first,): None}, {**rest, True: None}, list(whole), tuple(whole), list(whole.items()), first,
        {**rest, "nobody": 0}, dict.fromkeys(gifts + guests[len(gifts):]),
    ]]
    values = any_values() + [first, "nothing", [gifts[0]], (gifts[0],), {gifts[0]: None}, gifts[0] + " ", gifts]
    for value in values:
        if value is not None:
            wrong.append(({**whole, second: value}, second))
            wrong.append((turned_over({**whole, second: value, first: value}), first))
    wrong.append(({**whole, first: gifts[0], second: gifts[0]}, second))
    wrong.append((turned_over({**whole, first: gifts[0], second: gifts[0]}), second))
    return wrong


def check_wrong_holdings(case, function, wishes, *others, **named):
    """Check that the function raises InvalidHolding for every value that is no holding, whatever else it is passed."""
    for value, guest in wrong_holdings(wishes.guests(), wishes.gifts()):
        with case.subTest(value=value):
            error = raised(case, InvalidHolding, function, wishes, value, *others)
            case.assertTrue(same_kind(error.guest, guest))
            if named or not others:
                error = raised(case, InvalidHolding, function, wishes=wishes, holding=value, **named)
                case.assertTrue(same_kind(error.guest, guest))
