"""Points 2 and 3 over the whole program: names and arguments of the interface, copies, and equal results."""

import copy
import importlib
import inspect
import itertools
import unittest

from helpers import any_values, is_plain, seeded, snapshot
from lastturn import errors
from lastturn.desk import Desk
from lastturn.feasts import Feast
from lastturn.parties import Party
from lastturn.wishes import Wishes
from logbook import G, L, OFFERED, OFFERED_GIFTS, TWISTED
from turning import A, B, C, trio

W = Wishes(["cup", "hat", "map"], {"ann": ("cup", "hat", "map"), "bob": ("cup", "map", "hat"), "cal": ("hat", "cup", "map")})
P = Party(W, ("bob", "cal", "ann"))
HELD = {"ann": "hat", "bob": "cup", "cal": None}
BEST = {"ann": "hat", "bob": "cup", "cal": "map"}
EVENTS = [("arrive", "ann", ["vase", "lamp"]), ["arrive", "bob", ("vase", "lamp")], ("turn", "ann"),
          ("add", "ball", {"bob": 1, "ann": 0}), ("break", "lamp"), ("leave", "bob")]
TEXT = "gifts lamp vase\narrive ann vase lamp\narrive bob vase lamp"


def feast():
    """Return a feast with all kinds of events, and with a step that can be redone."""
    made = Feast(["lamp", "vase"])
    made.do(EVENTS[0])
    made.run(EVENTS[1:])
    made.do(("turn", "ann"))
    made.undo()
    return made


def desk():
    return Desk(feast())


# The arguments by which each function is called; functions of no arguments give new objects.
CALLS = {
    "names": {"is_name": [("ann",), ("Ann",)]},
    "parties": {"choose": [(W, ["ann", "bob", "cal"])], "table_gifts": [(W, HELD)]},
    "rounds": {"arrive": [(P, "dan", ["cup", "hat", "map"])], "turn": [(P, "ann")]},
    "changes": {"leave": [(P, "bob")], "add_gift": [(P, "pot", {"cal": 1, "bob": 0, "ann": 3})], "break_gift": [(P, "hat")]},
    "arrivals": {"after_arrivals": [(W, ["ann", "bob", "cal"])], "outcomes": [(W,)], "leads_to": [(W, BEST), (W, HELD)],
                 "extremes": [(W, "cal")]},
    "reports": {"after_report": [(W, ["ann", "bob", "cal"], "ann", ["map", "hat", "cup"])],
                "best_report": [(W, ["ann", "bob", "cal"], "ann")],
                "is_paying": [(W, ["ann", "bob", "cal"], "ann", ("map", "hat", "cup")), (W, ["cal", "bob", "ann"], "ann", [0])]},
    "planning": {"planned": [(W, ["ann", "bob", "cal"])], "gaining": [(W, ["ann", "bob", "cal"])],
                 "losing": [(W, ["ann", "bob", "cal"])]},
    "efficient": {"is_efficient": [(W, HELD), (W, BEST)], "improvement": [(W, HELD), (W, BEST)],
                  "is_improvement": [(W, HELD, ("table", "cal", "map")), (W, HELD, ["table", ["cal"]])],
                  "row_of": [(W, BEST)], "efficient_holdings": [(W,)]},
    "envy": {"envy_pairs": [(W, BEST)], "is_row_of": [(W, BEST, ["bob", "ann", "cal"])], "better_off": [(W, HELD, BEST)]},
    "rows": {"count_rows": [(W, BEST), (W, HELD)], "row_at": [(W, BEST, 0)], "row_number": [(W, ["ann", "cal", "bob"])]},
    "ladders": {"same_holding": [(W, ["ann", "bob", "cal"], ["cal", "ann", "bob"])],
                "ladder": [(W, ["ann", "bob", "cal"], ["cal", "ann", "bob"])],
                "is_ladder": [(W, ["ann", "bob", "cal"], ["cal", "ann", "bob"], [1, 0])]},
    "possible": {"possible_gifts": [(W, "cal")], "row_with": [(W, {"cal": "map"}), (W, {"bob": "hat"})]},
    "improving": {"improve": [(W, HELD)], "is_improved": [(W, HELD, ([("table", "cal", "map")], dict(BEST))), (W, HELD, [{}])]},
    "houses": {"states": [(trio(),)], "state_of": [(trio(), {"bob": "lamp", "cy": "ball", "ann": "kite"})],
               "after_turn": [(trio(), A, "bob")], "closed_states": [(trio(), C)], "shows_never": [(trio(), A, C, [A, B])],
               "lasting": [(trio(),)]},
    "words": {"after_word": [(trio(), C, ["ann", "bob"], 5)], "cycle_of": [(trio(), C, ["ann", "bob"])],
              "shortest_word": [(trio(), C, B), (trio(), A, C)], "count_words": [(trio(), A, A, 7)],
              "merging_word": [(trio(), A, C)], "stuck_pairs": [(trio(),)], "reset_word": [(trio(),)],
              "is_reset": [(trio(), ("bob",)), (trio(), [["bob"]])]},
    "logs": {"check_log": [(G, L), (G, [["arrive"]])], "row_of_log": [(G, L)], "holding_of_log": [(G, L)]},
    "comparisons": {"comparisons": [(G, L, "ann")], "contradiction": [(G, L), (G, TWISTED)],
                    "is_contradiction": [(G, TWISTED, ("ann", ["kite", "ball"])), (G, L, [])],
                    "certain": [(OFFERED_GIFTS, OFFERED, "ann", "map", "pot")],
                    "reason": [(OFFERED_GIFTS, OFFERED, "ann", "map", "pot")]},
    "rankings": {"count_rankings": [(G, L, "bob")], "ranking_at": [(G, L, "bob", 1)],
                 "ranking_number": [(G, L, "bob", ["kite", "lamp", "ball"])], "next_takes": [(G, L, "bob")],
                 "explains": [(G, L, {"cy": G, "ann": ["kite", "ball", "lamp"], "bob": ("kite", "ball", "lamp")})]},
    "texts": {"format_wishes": [(W,)], "format_party": [(P,)], "format_takes": [([["ann", "cup", None]],)],
              "format_log": [(G, L)], "format_feast": [(feast(),)], "parse_wishes": [("gifts cup\nguest ann cup",)],
              "parse_party": [("gifts cup\nguest ann cup\nrow ann",)], "parse_log": [("gifts cup\narrive ann: ann cup -",)],
              "parse_feast": [(TEXT,)]},
}
PARAMETERS = """is_name value|choose wishes row|table_gifts wishes holding|arrive party guest ranking|turn party guest|
leave party guest|add_gift party gift places|break_gift party gift|after_arrivals wishes order|outcomes wishes|
leads_to wishes holding|extremes wishes guest|after_report wishes order guest ranking|best_report wishes order guest|
is_paying wishes order guest value|planned wishes order|gaining wishes order|losing wishes order|is_efficient wishes holding|
improvement wishes holding|is_improvement wishes holding value|row_of wishes holding|efficient_holdings wishes|
envy_pairs wishes holding|is_row_of wishes holding row|better_off wishes holding other|count_rows wishes holding|
row_at wishes holding number|row_number wishes row|same_holding wishes row other|ladder wishes row other|
is_ladder wishes row other value|possible_gifts wishes guest|row_with wishes wanted|improve wishes holding|
is_improved wishes holding value|states wishes|state_of wishes holding|after_turn wishes state guest|closed_states wishes state|
shows_never wishes start goal value|lasting wishes|after_word wishes state word times|cycle_of wishes state word|
shortest_word wishes start goal|count_words wishes start goal turns|merging_word wishes one other|stuck_pairs wishes|
reset_word wishes|is_reset wishes value|check_log gifts log|row_of_log gifts log|holding_of_log gifts log|
comparisons gifts log guest|contradiction gifts log|is_contradiction gifts log value|certain gifts log guest one other|
reason gifts log guest one other|count_rankings gifts log guest|ranking_at gifts log guest number|
ranking_number gifts log guest ranking|next_takes gifts log guest|explains gifts log rankings|format_wishes wishes|
format_party party|format_takes takes|format_log gifts log|format_feast feast|parse_wishes text|parse_party text|parse_log text|
parse_feast text"""
CLASSES = {
    ("wishes", "Wishes"): {"__init__": "gifts rankings", "gifts": "", "guests": "", "ranking": "guest", "rankings": "",
                           "prefers": "guest one other", "__eq__": "other"},
    ("parties", "Party"): {"__init__": "wishes row", "wishes": "", "row": "", "holding": "", "table": "", "__eq__": "other"},
    ("feasts", "Feast"): {"__init__": "gifts", "do": "event", "run": "events", "undo": "", "redo": "", "party": "", "opening": "",
                          "events": "", "past": "number", "takes_of": "number", "gift_story": "gift", "guest_story": "guest",
                          "log": "", "twin": "", "__len__": "", "__eq__": "other"},
    ("desk", "Desk"): {"__init__": "feast", "execute": "command", "feast": ""},
}
METHODS = [
    (lambda: Wishes(["cup", "hat"], {"ann": ["hat", "cup"]}), {"gifts": (), "guests": (), "ranking": ("ann",), "rankings": (),
                                                               "prefers": ("ann", "cup", "hat")}),
    (lambda: P, {"wishes": (), "row": (), "holding": (), "table": ()}),
    (feast, {"do": (["add", "hat", {"ann": 1}],), "run": ([["turn", "ann"], ("add", "hat", {"ann": 0})],), "undo": (), "redo": (),
             "party": (), "opening": (), "events": (), "past": (2,), "takes_of": (1,), "gift_story": ("lamp",),
             "guest_story": ("bob",), "log": (), "twin": ()}),
    (desk, {"execute": ("add hat 0",), "feast": ()}),
]


def functions():
    """Return (module, name, function, calls) of all functions of the interface."""
    return [(module, name, getattr(importlib.import_module("lastturn." + module), name), calls)
            for module, listed in CALLS.items() for name, calls in listed.items()]


def shown(value):
    """Return what a value tells, with the kinds of all that is in it."""
    if isinstance(value, Wishes):
        return "Wishes", value.gifts(), list(value.rankings().items())
    if isinstance(value, Party):
        return "Party", snapshot(value)
    if isinstance(value, Feast):
        return "Feast", value.opening(), repr(value.events())
    if isinstance(value, dict):
        return "dict", [(shown(key), shown(item)) for key, item in value.items()]
    if isinstance(value, (list, tuple)):
        return type(value).__name__, [shown(item) for item in value]
    return type(value).__name__, value


def spoil(value):
    """Change all lists and dicts in a value."""
    if isinstance(value, (list, tuple)):
        for item in value:
            spoil(item)
    if isinstance(value, dict):
        for item in value.values():
            spoil(item)
    if isinstance(value, list):
        value.append("spoiled")
    if isinstance(value, dict):
        value["spoiled"] = "spoiled"


def orders(names):
    """Return some orders of these names."""
    found = list(itertools.permutations(names))
    return found if len(found) < 7 else seeded(191).sample(found, 6)


def copied(args):
    return tuple(copy.deepcopy(value) if is_plain(value) else value for value in args)


class FunctionsTest(unittest.TestCase):
    def test_all_functions_and_their_parameters(self):
        expected = {line.split()[0]: line.split()[1:] for line in PARAMETERS.replace("\n", "").split("|")}
        self.assertEqual({name for _, name, _, _ in functions()}, set(expected))
        for module, name, function, _ in functions():
            self.assertEqual(function.__module__, "lastturn." + module)
            self.assertTrue(inspect.isfunction(function))
            self.assertEqual(list(inspect.signature(function).parameters), expected[name])
            defaults = {key: one.default for key, one in inspect.signature(function).parameters.items()
                        if one.default is not inspect.Parameter.empty}
            self.assertEqual(defaults, {"times": 1} if name == "after_word" else {})

    def test_arguments_by_position_and_by_name_in_any_order(self):
        for _, name, function, calls in functions():
            names = list(inspect.signature(function).parameters)
            for args in calls:
                with self.subTest(name):
                    result = shown(function(*args))
                    for order in orders(names):
                        self.assertEqual(shown(function(**{key: args[names.index(key)] for key in order})), result)
                    for many in range(len(names)):
                        self.assertEqual(shown(function(*args[:many], **dict(zip(names[many:], args[many:])))), result)

    def test_arguments_do_not_change_and_results_are_new(self):
        for _, name, function, calls in functions():
            for args in calls:
                with self.subTest(name):
                    given = copied(args)
                    before = shown(given)
                    result = function(*given)
                    told = shown(result)
                    self.assertEqual(shown(given), before)
                    # What is changed in the result changes neither the arguments nor later results.
                    spoil(result)
                    self.assertEqual(shown(given), before)
                    self.assertEqual(shown(function(*given)), told)
                    # What is changed in the arguments does not change the result.
                    result = function(*given)
                    spoil(given)
                    self.assertEqual(shown(result), told)

    def test_lists_for_tuples(self):
        def turned(value):
            if isinstance(value, (list, tuple)):
                other = tuple if isinstance(value, list) else list
                return other(turned(item) for item in value)
            return {key: turned(item) for key, item in value.items()} if isinstance(value, dict) else value

        kept = {"state", "start", "goal", "one", "other", "value"}
        for _, name, function, calls in functions():
            names = list(inspect.signature(function).parameters)
            for args in calls:
                with self.subTest(name):
                    other = [value if key in kept and name not in ("ladder", "same_holding", "is_ladder") or key == "value"
                             else turned(value) for key, value in zip(names, args)]
                    self.assertEqual(shown(function(*other)), shown(function(*args)))

    def test_calls_that_raise_errors_change_nothing(self):
        for _, name, function, calls in functions():
            names = list(inspect.signature(function).parameters)
            for at, key in enumerate(names):
                if key in ("wishes", "party", "feast", "takes", "holding", "value") or name in ("format_log", "is_name"):
                    continue
                for value in any_values():
                    given = copied(calls[0])
                    given = given[:at] + (value,) + given[at + 1:]
                    before = shown(given)
                    try:
                        function(*given)
                    except Exception as error:
                        self.assertEqual(type(error).__module__, errors.__name__, (name, key, value))
                    self.assertEqual(shown(given), before)


class ClassesTest(unittest.TestCase):
    def test_all_methods_and_their_parameters(self):
        for (module, name), methods in CLASSES.items():
            kind = getattr(importlib.import_module("lastturn." + module), name)
            self.assertEqual(kind.__module__, "lastturn." + module)
            for method, parameters in methods.items():
                self.assertIn(method, vars(kind))
                found = inspect.signature(vars(kind)[method]).parameters
                self.assertEqual(list(found)[1:], parameters.split())
                for parameter in found.values():
                    self.assertIs(parameter.default, None if name == "Desk" and parameter.name == "feast"
                                  else inspect.Parameter.empty)

    def test_methods_by_position_and_by_name_and_their_results(self):
        for make, methods in METHODS:
            for method, args in methods.items():
                with self.subTest(method):
                    given = copied(args)
                    before = shown(given)
                    told = shown(getattr(make(), method)(*given))
                    self.assertEqual(shown(given), before)
                    names = list(inspect.signature(getattr(make(), method)).parameters)
                    for order in orders(names):
                        found = getattr(make(), method)(**{key: args[names.index(key)] for key in order})
                        self.assertEqual(shown(found), told)
                    thing = make()
                    result = getattr(thing, method)(*given)
                    if method not in ("do", "run", "undo", "redo", "execute"):
                        spoil(result)
                        self.assertEqual(shown(getattr(thing, method)(*given)), told)

    def test_objects_by_name_and_copies(self):
        gifts, rankings = ["cup", "hat"], {"ann": ["hat", "cup"]}
        wishes = Wishes(rankings=rankings, gifts=gifts)
        row = ["ann"]
        party = Party(row=row, wishes=wishes)
        begun = Feast(gifts=gifts)
        before = shown(party), shown(begun)
        for value in (gifts, rankings, row):
            spoil(value)
        self.assertEqual((shown(party), shown(begun)), before)

    def test_errors_change_no_feast_and_no_desk(self):
        for method in ("do", "run", "past", "takes_of", "gift_story", "guest_story"):
            for value in any_values():
                thing = feast()
                before = shown(thing)
                try:
                    getattr(thing, method)(value)
                except Exception as error:
                    self.assertEqual(type(error).__module__, errors.__name__)
                    self.assertEqual(shown(thing), before)
                    self.assertIs(thing.redo(), True)


class ConstantsTest(unittest.TestCase):
    def test_limits(self):
        limits = {"GUESTS": 16, "GIFTS": 16, "COUNTED": 12, "LISTED": 7, "ARRIVALS": 6, "HOUSE": 5, "LOGGED": 10, "PLANNED": 4}
        for name, value in limits.items():
            found = getattr(importlib.import_module("lastturn.names"), name)
            self.assertEqual((type(found), found), (int, value))
        self.assertEqual(importlib.import_module("lastturn.feasts").EVENTS, 200)
