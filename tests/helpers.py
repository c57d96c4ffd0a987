"""What several tests share: values of every kind, and how errors are checked."""

import copy

ALPHABET = "abcdefghijklmnopqrstuvwxyz"
MANY_GIFTS = ["g" + letter for letter in ALPHABET]
MANY_GUESTS = ["p" + letter for letter in ALPHABET]


def nested(value, depth, wrap):
    """Return the value inside this many lists, tuples or dicts."""
    for _ in range(depth):
        value = wrap(value)
    return value


def any_values():
    """Return new values of every kind that point 2 calls any value; none of them is a name."""
    return [
        0, 1, -1, 2, 7, 10 ** 61 - 1, 1 - 10 ** 61, True, False, None,
        "", " ", "Ann", "ANN", "ann ", " ann", "ann\n", "\nann", "a b", "a-b", "a_b", "a1", "1", "abcdefghi", "-",
        "\u00e9", "\uff41", "\u0430nn", "\u00df", "a" * 100, "gifts lamp\nguest ann lamp",
        (), [], {}, ("ann",), ["ann"], ["ann", "bob", "cy", "dan"], (None, None), [True, False], ("ann", ["bob"]),
        [["ann", "bob"]], (("ann", "bob"),), [{}, {}], [0, 1], ("lamp", 1), ["lamp", None], ["lamp", ["vase"]],
        ["ann", "ann"], ("lamp", "lamp"), ["lamp", "vase", "lamp"],
        {"ann": None, "bob": None, "zoe": None}, {"lamp": 0, "vase": 1}, {0: "ann", 1: "bob"}, {None: None},
        {True: False}, {("ann", 1): ["bob"]}, {(): {}}, {"": ""},
        nested("ann", 10, lambda value: [value]), nested("ann", 10, lambda value: (value,)),
        nested(None, 10, lambda value: {"ann": value}), nested((), 5, lambda value: [{1: value}]),
    ]


def raised(case, error, function, *args, **named):
    """Return the error of this very class that the call raises; the call must not modify its arguments."""
    plain = [value for value in list(args) + list(named.values()) if is_plain(value)]
    before = copy.deepcopy(plain)
    with case.assertRaises(error) as caught:
        function(*args, **named)
    case.assertIs(type(caught.exception), error)
    case.assertEqual(plain, before)
    return caught.exception


def is_plain(value):
    """Return True if the value has no objects of the program in it."""
    if isinstance(value, dict):
        return all(is_plain(item) for pair in value.items() for item in pair)
    if isinstance(value, (list, tuple)):
        return all(is_plain(item) for item in value)
    return value is None or isinstance(value, (int, str))


def same_kind(one, other):
    """Return True if two values are equal and True differs from 1 in them."""
    return one == other and repr(one) == repr(other)
