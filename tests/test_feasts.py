"""Points 70 to 73: feasts, their steps, stories and logs."""

import copy
import unittest

from feasting import CARRY, Diary, carried, gift_story, guest_story, no_events, possible_event, random_event, told
from helpers import MANY_GIFTS, MANY_GUESTS, any_values, raised, same_kind, seeded, snapshot
from lastturn import feasts
from lastturn.errors import (DuplicateGift, DuplicateGuest, InvalidEvent, InvalidGifts, InvalidName, InvalidRanking,
                             OutOfRange, TooLarge, UnknownGift, UnknownGuest)
from lastturn.feasts import EVENTS, Feast
from lastturn.logs import check_log, holding_of_log
from lastturn.parties import Party
from lastturn.wishes import Wishes

ANN = ("arrive", "ann", ("vase", "lamp"))
BOB = ("arrive", "bob", ("vase", "lamp"))
REST = [BOB, ("turn", "ann"), ("leave", "ann")]


def begun(*events):
    """Return a feast of the document's example with these events, each one a step."""
    feast = Feast(["lamp", "vase"])
    for event in events:
        feast.do(event)
    return feast


def check_feast(case, feast, diary):
    """Check the feast against the events of the diary, carried out anew."""
    events = diary.events()
    parties, takes = carried(diary.gifts, events)
    case.assertTrue(same_kind(len(feast), len(events)))
    case.assertEqual(feast.opening(), diary.gifts)
    case.assertTrue(same_kind(feast.events(), events))
    case.assertEqual(feast.party(), parties[-1])
    case.assertEqual(snapshot(feast.party()), snapshot(parties[-1]))
    for number, party in enumerate(parties):
        case.assertEqual(feast.past(number), party)
    case.assertTrue(same_kind([feast.takes_of(number) for number in range(len(events))], takes))
    for gift in {gift for party in parties for gift in party.wishes().gifts()}:
        case.assertTrue(same_kind(feast.gift_story(gift), gift_story(parties, gift)))
    for guest in {guest for party in parties for guest in party.wishes().guests()}:
        case.assertTrue(same_kind(feast.guest_story(guest), guest_story(parties, guest)))
    expected = [(event[0], event[1], some) for event, some in zip(events, takes)]
    if any(event[0] not in ("arrive", "turn") for event in events):
        expected = None
    case.assertTrue(same_kind(feast.log(), expected))


class HistoriesTest(unittest.TestCase):
    def do_anything(self, rng, feast, diary):
        """Do the same with both: an event or several ones, also wrong ones, or undo or redo a step."""
        way = rng.random()
        if way < 0.2:
            self.assertIs(feast.undo(), diary.undo())
        elif way < 0.35:
            self.assertIs(feast.redo(), diary.redo())
        elif way < 0.5:
            count = rng.randrange(4)
            before = told(feast)
            events = []
            parties, _ = carried(diary.gifts, diary.events())
            for _ in range(count):
                events.append(possible_event(rng, parties[-1]))
                parties, takes = carried(diary.gifts, diary.events() + events)
            if rng.random() < 0.3:
                # The last one cannot be done, so none of them is.
                raised(self, UnknownGuest, feast.run, events + [("turn", "nobody")])
                self.assertEqual(told(feast), before)
            else:
                found = feast.run(events)
                self.assertTrue(same_kind(found, takes[len(diary.events()):] if events else []))
                diary.add(events)
        elif way < 0.6:
            before = told(feast)
            event = random_event(rng, feast.party())
            try:
                party, takes = CARRY[event[0]](feast.party(), *event[1:])
            except (KeyError, ArithmeticError) as error:
                raised(self, type(error), feast.do, event)
                self.assertEqual(told(feast), before)
            else:
                self.assertEqual(feast.do(event), takes)
                diary.add([event])
        else:
            event = possible_event(rng, feast.party())
            _, takes = CARRY[event[0]](feast.party(), *event[1:])
            given = event if rng.random() < 0.5 else [list(item) if isinstance(item, tuple) else item for item in event]
            self.assertTrue(same_kind(feast.do(given), takes))
            diary.add([event])

    def test_histories_with_undo_and_redo(self):
        rng = seeded(161)
        for _ in range(60):
            gifts = rng.sample(MANY_GIFTS, rng.randrange(6))
            feast, diary = Feast(gifts), Diary(gifts)
            twins = []
            for number in range(30):
                self.do_anything(rng, feast, diary)
                if number % 3 == 0:
                    check_feast(self, feast, diary)
                if number % 10 == 5:
                    twins.append((feast.twin(), told(feast)))
            check_feast(self, feast, diary)
            for twin, before in twins:
                self.assertEqual(told(twin), before)

    def test_twins_go_their_own_ways(self):
        rng = seeded(162)
        for _ in range(25):
            gifts = rng.sample(MANY_GIFTS, rng.randrange(5))
            feast, diary = Feast(gifts), Diary(gifts)
            for _ in range(12):
                self.do_anything(rng, feast, diary)
            other, second = feast.twin(), copy.deepcopy(diary)
            for _ in range(10):
                self.do_anything(rng, feast, diary)
                self.do_anything(rng, other, second)
            check_feast(self, feast, diary)
            check_feast(self, other, second)
            self.assertIs(feast == other, same_kind(diary.events(), second.events()))

    def test_long_feasts(self):
        rng = seeded(163)
        feast, diary = Feast(MANY_GIFTS[:5]), Diary(MANY_GIFTS[:5])
        while len(feast) < EVENTS:
            event = possible_event(rng, feast.party())
            feast.do(event)
            diary.add([event])
        check_feast(self, feast, diary)
        raised(self, TooLarge, feast.do, possible_event(rng, feast.party()))
        check_feast(self, feast, diary)


class ExampleTest(unittest.TestCase):
    def test_example_of_the_document(self):
        feast = Feast(["lamp", "vase"])
        self.assertTrue(same_kind(feast.do(ANN), [("ann", "vase", None)]))
        self.assertTrue(same_kind(feast.run(REST), [
            [("bob", "vase", "ann"), ("ann", "lamp", None)], [("ann", "vase", "bob"), ("bob", "lamp", None)],
            [("bob", "vase", None)]]))
        self.assertTrue(same_kind(feast.guest_story("ann"), [(1, "holds", "vase"), (2, "holds", "lamp"), (3, "holds", "vase"),
                                                             (4, "left", None)]))
        self.assertTrue(same_kind([feast.undo(), len(feast), feast.party().holding(), feast.redo(), feast.party().table()],
                                  [True, 1, {"ann": "vase"}, True, ["lamp"]]))

    def test_the_limit(self):
        self.assertEqual(EVENTS, 200)
        self.assertIs(type(EVENTS), int)

    def test_an_empty_feast(self):
        for gifts in ([], (), ["lamp"], ("lamp", "vase"), MANY_GIFTS[:16]):
            feast = Feast(gifts)
            self.assertEqual([len(feast), feast.opening(), feast.events(), feast.log()], [0, list(gifts), [], []])
            self.assertEqual(feast.party(), Party(Wishes(gifts, {}), ()))
            self.assertEqual(feast.past(0), feast.party())
            self.assertEqual([feast.undo(), feast.redo(), feast.run([]), feast.run(()), len(feast)], [False, False, [], [], 0])
            for gift in gifts:
                self.assertEqual(feast.gift_story(gift), [(0, "table", None)])
            for value in any_values() + ["ann"]:
                raised(self, UnknownGuest, feast.guest_story, value)

    def test_wrong_gifts(self):
        for value in any_values() + ["lamp", ["lamp", "lamp"], ["lamp", None], ["lamp", ["vase"]], {"lamp": 1}, [["lamp"]]]:
            if value not in ([], (), ("ann",), ["ann"], ["ann", "bob", "cy", "dan"]):
                raised(self, InvalidGifts, Feast, value)
                raised(self, InvalidGifts, Feast, gifts=value)
        self.assertEqual(raised(self, TooLarge, Feast, MANY_GIFTS[:17]).limit, 16)
        self.assertEqual(raised(self, TooLarge, Feast, gifts=tuple(MANY_GIFTS)).limit, 16)
        raised(self, InvalidGifts, Feast, MANY_GIFTS[:17] + ["ga"])


class StepsTest(unittest.TestCase):
    def test_steps_of_several_events(self):
        feast = begun(ANN)
        feast.run(tuple(REST))
        feast.do(event=["turn", "bob"])
        self.assertEqual([len(feast), feast.undo(), len(feast), feast.undo(), len(feast), feast.undo(), len(feast), feast.undo()],
                         [5, True, 4, True, 1, True, 0, False])
        self.assertEqual([feast.redo(), len(feast), feast.redo(), len(feast), feast.redo(), len(feast), feast.redo()],
                         [True, 1, True, 4, True, 5, False])
        self.assertEqual(feast.events(), [ANN] + REST + [("turn", "bob")])

    def test_a_step_after_an_undo_ends_what_can_be_redone(self):
        for step in (lambda feast: feast.do(BOB), lambda feast: feast.run([BOB])):
            feast = begun(ANN, ("turn", "ann"))
            feast.undo()
            feast.undo()
            feast.redo()
            step(feast)
            self.assertEqual([feast.redo(), feast.events()], [False, [ANN, BOB]])
            self.assertEqual([feast.undo(), feast.undo(), feast.undo(), feast.redo(), feast.redo(), feast.redo()],
                             [True, True, False, True, True, False])

    def test_an_error_or_an_empty_run_does_not(self):
        feast = begun(ANN, BOB)
        feast.undo()
        before = told(feast)
        raised(self, DuplicateGuest, feast.do, ANN)
        raised(self, InvalidEvent, feast.do, ())
        raised(self, InvalidEvent, feast.run, None)
        raised(self, UnknownGuest, feast.run, [BOB, ("turn", "cy")])
        self.assertEqual([feast.run([]), feast.run(events=())], [[], []])
        self.assertEqual(told(feast), before)
        self.assertEqual([feast.redo(), feast.events()], [True, [ANN, BOB]])
        feast.run([])
        self.assertEqual([feast.undo(), feast.events()], [True, [ANN]])

    def test_two_hundred_events(self):
        feast = begun(ANN)
        turns = [("turn", "ann")]
        self.assertEqual(len(feast.run(turns * 198)), 198)
        before = told(feast)
        self.assertEqual(raised(self, TooLarge, feast.run, turns * 2).limit, 200)
        self.assertEqual(told(feast), before)
        # The error of the first event that cannot be done.
        self.assertEqual(raised(self, TooLarge, feast.run, turns * 2 + [None]).limit, 200)
        self.assertEqual(raised(self, InvalidEvent, feast.run, turns + [None]).number, 1)
        raised(self, UnknownGuest, feast.run, [("turn", "bob")] + turns)
        feast.do(("turn", "ann"))
        self.assertEqual(len(feast), 200)
        for event in (("turn", "ann"), ("turn", "bob"), ("arrive", "ann", None), ["add", None, None]):
            self.assertEqual(raised(self, TooLarge, feast.do, event).limit, 200)
            self.assertEqual(raised(self, TooLarge, feast.run, [event]).limit, 200)
        for event in (("turn",), None, ("come", "ann")):
            self.assertEqual(raised(self, InvalidEvent, feast.do, event).number, 0)
        self.assertEqual(feast.run([]), [])
        feast.undo()
        feast.undo()
        self.assertEqual([len(feast), feast.redo(), feast.redo(), len(feast)], [1, True, True, 200])

    def test_a_run_of_all_events(self):
        feast = Feast([])
        events = [("arrive", "ann", ())] + [("turn", "ann")] * 199
        raised(self, TooLarge, feast.run, events + [("turn", "ann")])
        self.assertEqual(len(feast), 0)
        feast.run(events)
        self.assertEqual([len(feast), feast.undo(), len(feast)], [200, True, 0])


class WrongEventsTest(unittest.TestCase):
    def check_run(self, feast, event, error, field, value):
        """Check the error of an event, done alone and with others."""
        before = told(feast)
        self.assertTrue(same_kind(getattr(raised(self, error, feast.do, event), field), value))
        self.assertTrue(same_kind(getattr(raised(self, error, feast.do, event=event), field), value))
        for ahead in ([], [("turn", "ann")], [("turn", "ann"), ["turn", "ann"]]):
            found = getattr(raised(self, error, feast.run, ahead + [event, None]), field)
            self.assertTrue(same_kind(found, len(ahead) if error is InvalidEvent else value))
        self.assertEqual(told(feast), before)

    def test_values_that_are_no_events(self):
        feast = begun(ANN)
        for value in no_events():
            with self.subTest(value=value):
                self.check_run(feast, value, InvalidEvent, "number", 0)

    def test_values_that_are_no_lists_of_events(self):
        feast = begun(ANN)
        for value in any_values() + ["turn ann", {"turn": "ann"}, {0: ("turn", "ann")}]:
            if not isinstance(value, (list, tuple)):
                self.assertEqual(raised(self, InvalidEvent, feast.run, value).number, -1)
                self.assertEqual(raised(self, InvalidEvent, feast.run, events=value).number, -1)
        self.assertEqual(raised(self, InvalidEvent, feast.run, ("turn", "ann")).number, 0)
        self.assertEqual(feast.events(), [ANN])

    def test_errors_of_the_functions(self):
        feast = begun(ANN)
        for value in any_values():
            with self.subTest(value=value):
                self.check_run(feast, ("arrive", value, ("lamp", "vase")), InvalidName, "name", value)
                self.check_run(feast, ("arrive", "ann", value), DuplicateGuest, "guest", "ann")
                if value not in (("lamp", "vase"), ["lamp", "vase"]):
                    self.check_run(feast, ("arrive", "bob", value), InvalidRanking, "guest", "bob")
                self.check_run(feast, ("turn", value), UnknownGuest, "guest", value)
                self.check_run(feast, ["leave", value], UnknownGuest, "guest", value)
                self.check_run(feast, ("break", value), UnknownGift, "gift", value)
                self.check_run(feast, ("add", value, {"ann": 0}), InvalidName, "name", value)
                self.check_run(feast, ["add", "lamp", value], DuplicateGift, "gift", "lamp")
                places_of_ann = isinstance(value, dict) and list(value) == ["ann"]
                self.check_run(feast, ("add", "ball", value), InvalidRanking, "guest", "ann" if places_of_ann else None)
                if type(value) is not int or not 0 <= value <= 2:
                    self.check_run(feast, ("add", "ball", {"ann": value}), InvalidRanking, "guest", "ann")

    def test_too_many_guests_and_gifts(self):
        feast = Feast(MANY_GIFTS[:16])
        feast.run([("arrive", guest, MANY_GIFTS[:16]) for guest in MANY_GUESTS[:16]])
        self.assertEqual(raised(self, TooLarge, feast.do, ("arrive", "zoe", MANY_GIFTS[:16])).limit, 16)
        self.assertEqual(raised(self, TooLarge, feast.do, ("add", "lamp", {})).limit, 16)
        self.assertEqual(len(feast), 16)


class CopiesTest(unittest.TestCase):
    def test_lists_come_back_as_tuples_and_places_in_guest_order(self):
        feast = Feast(["lamp", "vase"])
        feast.do(["arrive", "zoe", ["vase", "lamp"]])
        feast.run([["arrive", "ann", ["lamp", "vase"]], ["add", "ball", {"ann": 1, "zoe": 2}], ["turn", "ann"], ["break", "vase"],
                   ["leave", "zoe"]])
        self.assertTrue(same_kind(feast.events(), [
            ("arrive", "zoe", ("vase", "lamp")), ("arrive", "ann", ("lamp", "vase")), ("add", "ball", {"zoe": 2, "ann": 1}),
            ("turn", "ann"), ("break", "vase"), ("leave", "zoe")]))

    def test_later_changes_of_what_was_passed(self):
        gifts, ranking, places = ["lamp", "vase"], ["vase", "lamp"], {"ann": 1}
        events = [["arrive", "ann", ranking], ["add", "ball", places], ["turn", "ann"], ["break", "lamp"]]
        feast = Feast(gifts)
        feast.run(events)
        before = told(feast)
        self.assertEqual((gifts, ranking, places), (["lamp", "vase"], ["vase", "lamp"], {"ann": 1}))
        gifts.clear()
        ranking.reverse()
        places["ann"] = 0
        for event in events:
            event[1] = "bob"
        events.clear()
        self.assertEqual(told(feast), before)
        feast.undo()
        feast.redo()
        self.assertEqual(told(feast), before)
        event = ["turn", "ann"]
        feast.do(event)
        event[0] = "leave"
        self.assertEqual(feast.events()[-1], ("turn", "ann"))

    def test_later_changes_of_what_was_returned(self):
        feast = begun(ANN, BOB, ("turn", "ann"))
        before = told(feast)
        feast.takes_of(1).clear()
        feast.log()[1][2].clear()
        feast.log().clear()
        feast.events().clear()
        feast.opening().clear()
        feast.gift_story("lamp").clear()
        feast.guest_story("ann").clear()
        self.assertEqual(told(feast), before)
        feast.do(("add", "ball", {"ann": 0, "bob": 0})).append("nothing")
        takes = feast.run([("turn", "bob"), ("turn", "ann")])
        before = told(feast)
        takes[0].clear()
        takes.clear()
        feast.events()[3][2].clear()
        self.assertEqual(told(feast), before)
        self.assertEqual(feast.events()[3], ("add", "ball", {"ann": 0, "bob": 0}))
        self.assertNotIn("nothing", feast.takes_of(3))
        twin = feast.twin()
        twin.takes_of(3).clear()
        twin.events()[3][2].clear()
        self.assertEqual(told(feast), before)

    def test_calls_by_name(self):
        feast = begun(ANN, BOB)
        self.assertEqual(feast.past(number=1), feast.past(1))
        self.assertEqual(feast.takes_of(number=1), feast.takes_of(1))
        self.assertEqual(feast.gift_story(gift="lamp"), [(0, "table", None), (2, "held", "ann")])
        self.assertEqual(feast.guest_story(guest="bob"), [(2, "holds", "vase")])
        self.assertEqual(Feast(gifts=("lamp", "vase")), Feast(["lamp", "vase"]))


class NumbersTest(unittest.TestCase):
    def test_past_and_takes_of(self):
        feast = begun(ANN, *REST)
        parties, takes = carried(["lamp", "vase"], [ANN] + REST)
        for number in range(5):
            self.assertEqual(feast.past(number), parties[number])
        for number in range(4):
            self.assertTrue(same_kind(feast.takes_of(number), takes[number]))

    def test_numbers_of_every_kind(self):
        for feast, many in ((begun(ANN, *REST), 4), (Feast([]), 0), (begun(ANN), 1)):
            for value in any_values() + [many + 1, -1, True, False, "0", [0], (1,), 200]:
                with self.subTest(value=value):
                    if type(value) is not int or not 0 <= value <= many:
                        self.assertTrue(same_kind(raised(self, OutOfRange, feast.past, value).number, value))
                    if type(value) is not int or not 0 <= value < many:
                        self.assertTrue(same_kind(raised(self, OutOfRange, feast.takes_of, value).number, value))
            self.assertEqual(raised(self, OutOfRange, feast.takes_of, number=many).number, many)
            self.assertEqual(raised(self, OutOfRange, feast.past, number=many + 1).number, many + 1)


class StoriesTest(unittest.TestCase):
    def test_gifts_that_break_and_are_added_again(self):
        feast = begun(ANN, ("break", "vase"), ("turn", "ann"), ("add", "vase", {"ann": 1}), ("break", "vase"), ("leave", "ann"),
                      ("add", "vase", {}), ("add", "ball", {}))
        self.assertEqual(feast.gift_story("vase"), [
            (0, "table", None), (1, "held", "ann"), (2, "broken", None), (4, "table", None), (5, "broken", None),
            (7, "table", None)])
        self.assertEqual(feast.gift_story("lamp"), [(0, "table", None), (2, "held", "ann"), (6, "table", None)])
        self.assertTrue(same_kind(feast.gift_story("ball"), [(8, "table", None)]))

    def test_guests_who_leave_and_arrive_again(self):
        feast = begun(ANN, BOB, ("arrive", "cy", ("vase", "lamp")), ("leave", "ann"), BOB[:1] + ("ann",) + BOB[2:],
                      ("leave", "cy"), ("leave", "bob"), ("break", "lamp"), ("break", "vase"))
        self.assertEqual(feast.guest_story("ann"), guest_story(carried(["lamp", "vase"], feast.events())[0], "ann"))
        self.assertEqual([item[1] for item in feast.guest_story("ann")],
                         ["holds", "holds", "without", "left", "holds", "without"])
        self.assertEqual(feast.guest_story("cy")[-1], (6, "left", None))

    def test_events_that_were_undone_never_happened(self):
        feast = begun(ANN, ("add", "ball", {"ann": 0}), BOB[:1] + ("bob", ("ball", "vase", "lamp")))
        self.assertEqual(feast.gift_story("ball"), [(2, "held", "ann"), (3, "held", "bob")])
        feast.undo()
        raised(self, UnknownGuest, feast.guest_story, "bob")
        self.assertEqual(feast.gift_story("ball"), [(2, "held", "ann")])
        feast.undo()
        self.assertEqual(raised(self, UnknownGift, feast.gift_story, "ball").gift, "ball")
        feast.undo()
        self.assertEqual(raised(self, UnknownGuest, feast.guest_story, guest="ann").guest, "ann")
        feast.redo()
        feast.redo()
        self.assertEqual(feast.gift_story("ball"), [(2, "held", "ann")])

    def test_names_of_every_kind(self):
        feast = begun(ANN, BOB, ("break", "lamp"), ("leave", "ann"))
        for value in any_values() + ["cy", ["ann"], ("ann",), {"ann": 1}, "ann "]:
            with self.subTest(value=value):
                self.assertTrue(same_kind(raised(self, UnknownGift, feast.gift_story, value).gift, value))
                self.assertTrue(same_kind(raised(self, UnknownGuest, feast.guest_story, value).guest, value))
        for name in ("ann", "bob"):
            self.assertEqual(raised(self, UnknownGift, feast.gift_story, gift=name).gift, name)
        for name in ("lamp", "vase"):
            self.assertEqual(raised(self, UnknownGuest, feast.guest_story, guest=name).guest, name)


class LogTest(unittest.TestCase):
    def test_by_hand(self):
        feast = begun(ANN, BOB)
        log = [("arrive", "ann", [("ann", "vase", None)]), ("arrive", "bob", [("bob", "vase", "ann"), ("ann", "lamp", None)])]
        self.assertTrue(same_kind(feast.log(), log))
        for event in (("leave", "ann"), ("add", "ball", {"ann": 0, "bob": 0}), ("break", "vase")):
            feast.do(event)
            self.assertIs(feast.log(), None)
            feast.undo()
            self.assertTrue(same_kind(feast.log(), log))
        feast.do(("leave", "ann"))
        feast.do(("turn", "bob"))
        self.assertIs(feast.log(), None)

    def test_logs_of_feasts_are_valid(self):
        rng = seeded(164)
        for _ in range(40):
            feast = Feast(rng.sample(MANY_GIFTS, rng.randrange(6)))
            for _ in range(15):
                feast.do(possible_event(rng, feast.party(), ("arrive", "turn", "turn")))
            self.assertIs(check_log(feast.opening(), feast.log()), None)
            self.assertTrue(same_kind(holding_of_log(feast.opening(), feast.log()), feast.party().holding()))


class EqualityTest(unittest.TestCase):
    def test_steps_and_undone_steps_do_not_count(self):
        one, other = begun(ANN, BOB), Feast(("lamp", "vase"))
        other.run([ANN, list(BOB)])
        other.do(("turn", "ann"))
        self.assertIs(one == other, False)
        self.assertIs(one != other, True)
        other.undo()
        self.assertIs(one == other, True)
        self.assertIs(one != other, False)
        one.do(("add", "ball", {"ann": 0, "bob": 1}))
        self.assertIs(one == other, False)
        other.do(["add", "ball", {"bob": 1, "ann": 0}])
        self.assertIs(one == other, True)

    def test_gifts_and_events_count(self):
        feast = begun(ANN)
        for other in (Feast(["lamp", "vase"]), Feast(["vase", "lamp"]), begun(BOB), begun(ANN, BOB), Feast([]),
                      begun(("arrive", "ann", ("lamp", "vase")))):
            self.assertIs(feast == other, False)
        self.assertIs(Feast(["vase", "lamp"]) == Feast(["lamp", "vase"]), False)
        reverse = Feast(["vase", "lamp"])
        reverse.do(ANN)
        self.assertIs(feast == reverse, False)
        # Both end in the same party.
        self.assertIs(begun(ANN, ("turn", "ann")) == feast, False)
        self.assertIs(begun(ANN, ("turn", "ann")).party() == feast.party(), True)
        one, other = begun(ANN), begun(ANN)
        one.do(("add", "ball", {"ann": 0}))
        other.do(("add", "ball", {"ann": 1}))
        self.assertIs(one == other, False)

    def test_objects_of_other_kinds(self):
        feast = Feast([])
        for value in any_values() + [feast.party(), feast.party().wishes(), object()]:
            self.assertIs(feast == value, False)
            self.assertIs(feast != value, True)
            self.assertIs(value == feast, False)

    def test_twins(self):
        feast = begun(ANN, BOB)
        feast.undo()
        twin = feast.twin()
        self.assertIs(type(twin), Feast)
        self.assertIs(feast == twin, True)
        # The undone steps are there, too.
        self.assertEqual([twin.redo(), len(twin), len(feast), feast.redo(), feast == twin], [True, 2, 1, True, True])
        twin.do(("turn", "ann"))
        self.assertEqual([len(twin), len(feast), feast.redo(), twin.undo(), twin.undo(), twin.undo(), twin.undo()],
                         [3, 2, False, True, True, True, False])
        self.assertEqual([len(feast), feast.undo(), feast.twin().undo(), len(feast)], [2, True, True, 1])


class FileTest(unittest.TestCase):
    def test_methods_stand_in_the_class(self):
        self.assertEqual(Feast.__module__, feasts.__name__)
        for name in ("do", "run", "undo", "redo", "party", "opening", "events", "past", "takes_of", "gift_story", "guest_story",
                     "log", "twin", "__len__", "__eq__", "__init__"):
            self.assertIn(name, vars(Feast))
