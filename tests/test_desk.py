"""Points 76 and 77: the desk and its commands."""

import unittest

from feasting import possible_event, random_event, told
from helpers import MANY_GIFTS, MANY_GUESTS, any_values, raised, same_kind, seeded
from lastturn import desk as module
from lastturn.desk import Desk
from lastturn.errors import (DuplicateGift, DuplicateGuest, InvalidCommand, InvalidRanking, InvalidText, TooLarge, UnknownGift,
                             UnknownGuest)
from lastturn.feasts import Feast
from lastturn.rows import count_rows
from lastturn.texts import format_feast, format_takes, parse_feast


def at_work(*commands):
    """Return a desk after these commands."""
    desk = Desk()
    for command in commands:
        desk.execute(command)
    return desk


BEGUN = ("add lamp", "add vase", "arrive ann vase lamp", "arrive bob vase lamp")


def dash(name):
    return "-" if name is None else name


def expected(feast, command):
    """Return what a desk with this feast answers to the command, which changes nothing."""
    word, _, name = command.partition(" ")
    party = feast.party()
    names = {"gifts": party.wishes().gifts(), "guests": party.wishes().guests(), "row": party.row(), "table": party.table()}
    if word in names:
        return " ".join(names[word]) or "none"
    if word == "ranking":
        return " ".join(party.wishes().ranking(name)) or "none"
    if word == "holding":
        return "; ".join(guest + " " + dash(gift) for guest, gift in party.holding().items()) or "none"
    if word in ("gift", "guest"):
        story = feast.gift_story(name) if word == "gift" else feast.guest_story(name)
        return "; ".join(" ".join((str(number), status, dash(other))) for number, status, other in story)
    return {"events": str(len(feast)), "rows": str(count_rows(party.wishes(), party.holding())),
            "save": " / ".join(format_feast(feast).split("\n"))}[word]


def line_of(event):
    """Return the command for an event."""
    rest = event[2:]
    if event[0] == "arrive":
        rest = event[2]
    if event[0] == "add":
        rest = [str(index) for index in event[2].values()]
    return " ".join(event[:2] + tuple(rest))


class AnswersTest(unittest.TestCase):
    def check_answers(self, desk, feast):
        """Check all answers of the desk that change nothing."""
        for command in ["gifts", "guests", "row", "table", "holding", "events", "rows", "save"]:
            self.assertTrue(same_kind(desk.execute(command), expected(feast, command)))
        parties = [feast.past(number) for number in range(len(feast) + 1)]
        for gift in sorted({gift for party in parties for gift in party.wishes().gifts()}):
            self.assertTrue(same_kind(desk.execute("gift " + gift), expected(feast, "gift " + gift)))
        for guest in sorted({guest for party in parties for guest in party.wishes().guests()}):
            self.assertTrue(same_kind(desk.execute("guest " + guest), expected(feast, "guest " + guest)))
            if guest in feast.party().wishes().guests():
                self.assertEqual(desk.execute("ranking " + guest), expected(feast, "ranking " + guest))
            else:
                self.assertEqual(raised(self, UnknownGuest, desk.execute, "ranking " + guest).guest, guest)
        self.assertEqual(told(desk.feast()), told(feast))

    def test_examples_of_the_document(self):
        desk = Desk()
        self.assertEqual([desk.execute("add lamp"), desk.execute("arrive ann lamp"), desk.execute("add vase 0")],
                         ["none", "ann lamp -", "ann vase -"])
        self.assertEqual([desk.execute("holding"), desk.execute("gift lamp"), desk.execute("save")],
                         ["ann vase", "1 table -; 2 held ann; 3 table -", "gifts / add lamp / arrive ann lamp / add vase 0"])

    def test_a_desk_beside_a_feast(self):
        rng = seeded(181)
        for _ in range(40):
            feast = Feast(rng.sample(MANY_GIFTS, rng.randrange(5)))
            desk = Desk(feast)
            for number in range(25):
                way = rng.random()
                if way < 0.2:
                    self.assertEqual(desk.execute("undo"), "ok" if feast.undo() else "none")
                elif way < 0.35:
                    self.assertEqual(desk.execute("redo"), "ok" if feast.redo() else "none")
                elif way < 0.5:
                    event = random_event(rng, feast.party())
                    try:
                        takes = feast.do(event)
                    except (KeyError, ArithmeticError) as error:
                        raised(self, type(error), desk.execute, line_of(event))
                    else:
                        self.assertEqual(desk.execute(line_of(event)), format_takes(takes))
                elif way < 0.55:
                    text = desk.execute("save")
                    self.assertEqual(desk.execute("load " + text), "ok")
                    feast = parse_feast(format_feast(feast))
                else:
                    event = possible_event(rng, feast.party())
                    self.assertEqual(desk.execute(line_of(event)), format_takes(feast.do(event)))
                if number % 4 == 0:
                    self.check_answers(desk, feast)
            self.check_answers(desk, feast)

    def test_by_hand(self):
        desk = Desk()
        answers = [("gifts", "none"), ("guests", "none"), ("row", "none"), ("table", "none"), ("holding", "none"), ("events", "0"),
                   ("rows", "1"), ("undo", "none"), ("redo", "none"), ("save", "gifts"), ("add lamp", "none"), ("add vase", "none"),
                   ("table", "lamp vase"), ("arrive zoe vase lamp", "zoe vase -"), ("arrive ann vase lamp", "ann vase zoe; zoe lamp -"),
                   ("arrive bob vase lamp", "bob vase ann; ann lamp zoe; zoe - -"), ("gifts", "lamp vase"), ("guests", "zoe ann bob"),
                   ("row", "bob ann zoe"), ("table", "none"), ("holding", "zoe -; ann lamp; bob vase"), ("events", "5"), ("rows", "1"),
                   ("ranking ann", "vase lamp"), ("undo", "ok"), ("events", "4"), ("redo", "ok"), ("redo", "none"),
                   ("guest zoe", "3 holds vase; 4 holds lamp; 5 without -"), ("gift vase", "2 table -; 3 held zoe; 4 held ann; 5 held bob"),
                   ("leave bob", "ann vase -; zoe lamp -"), ("guest bob", "5 holds vase; 6 left -"), ("break vase", "ann lamp zoe; zoe - -"),
                   ("break lamp", "ann - -"), ("gift lamp", "1 table -; 4 held zoe; 5 held ann; 6 held zoe; 7 held ann; 8 broken -"),
                   ("ranking ann", "none"), ("gifts", "none"), ("turn ann", "ann - -"), ("add lamp 0 0", "ann lamp -"),
                   ("add hat 1 0", "ann hat -; zoe lamp -"), ("rows", "2"), ("add map 2 2", "none"), ("turn zoe", "zoe lamp -"),
                   ("save", "gifts / add lamp / add vase / arrive zoe vase lamp / arrive ann vase lamp / arrive bob vase lamp / "
                            "leave bob / break vase / break lamp / turn ann / add lamp 0 0 / add hat 1 0 / add map 2 2 / turn zoe"),
                   ("load gifts", "ok"), ("events", "0"), ("undo", "none"), ("redo", "none")]
        for command, answer in answers:
            self.assertTrue(same_kind(desk.execute(command), answer), command)

    def test_load(self):
        desk = at_work(*BEGUN)
        text = desk.execute("save")
        self.assertEqual(text, "gifts / add lamp / add vase / arrive ann vase lamp / arrive bob vase lamp")
        desk.execute("undo")
        self.assertEqual(desk.execute("load " + text), "ok")
        # One step for each event, and nothing to redo.
        self.assertEqual([desk.execute(command) for command in ("redo", "events", "undo", "events", "redo", "redo")],
                         ["none", "4", "ok", "3", "ok", "none"])
        self.assertEqual([desk.execute("load gifts vase"), desk.execute("save"), desk.execute("undo")], ["ok", "gifts vase", "none"])
        before = told(desk.feast())
        for text, line in (("", 0), (" ", 0), ("/", 0), (" / ", 0), ("gift", 0), ("gifts /", 0), ("gifts / ", 1), ("gifts  / turn ann", 0),
                           ("gifts / turn ann", 1), ("gifts /  / add lamp", 1), ("gifts / / add lamp", 1), ("gifts/add lamp", 0),
                           ("gifts / add lamp / add lamp", 2), (" gifts", 0), ("gifts ", 0), ("gifts / arrive ann /  turn ann", 2),
                           ("gifts / add lamp 0", 1), ("gifts lamp / arrive ann / turn ann", 1), ("load gifts", 0), ("gifts / load gifts", 1),
                           ("gifts / arrive ann / row", 2), ("gifts / undo", 1), ("gifts\r", 0), ("gifts / arrive ann / ", 2)):
            with self.subTest(text=text):
                self.assertTrue(same_kind(raised(self, InvalidText, desk.execute, "load " + text).line, line))
                self.assertEqual(told(desk.feast()), before)

    def test_a_loaded_feast_of_too_many_events(self):
        desk = Desk()
        text = "gifts / arrive ann" + " / turn ann" * 199
        self.assertEqual([desk.execute("load " + text), desk.execute("events")], ["ok", "200"])
        self.assertEqual(raised(self, InvalidText, desk.execute, "load " + text + " / turn ann").line, 201)
        self.assertEqual(raised(self, TooLarge, desk.execute, "turn ann").limit, 200)
        self.assertEqual(raised(self, TooLarge, desk.execute, "turn bob").limit, 200)
        raised(self, InvalidCommand, desk.execute, "turn ann ann")
        self.assertEqual(desk.execute("events"), "200")


class CommandsTest(unittest.TestCase):
    def check_command(self, desk, command):
        """Check that the value is not a command, and changes nothing."""
        with self.subTest(command=command):
            before = told(desk.feast())
            self.assertTrue(same_kind(raised(self, InvalidCommand, desk.execute, command).command, command))
            self.assertTrue(same_kind(raised(self, InvalidCommand, desk.execute, command=command).command, command))
            self.assertEqual(told(desk.feast()), before)

    def test_values_of_every_kind(self):
        for desk in (Desk(), at_work(*BEGUN)):
            for value in any_values() + [["undo"], ("undo",), {"undo": 1}, [["turn", "ann"]], ("turn", "ann")]:
                self.check_command(desk, value)

    def test_strings_that_are_no_commands(self):
        desk = at_work(*BEGUN)
        for command in (
                "", " ", "undo ", " undo", "undo undo", "Undo", "UNDO", "undo 1", "redo ann", "redo\n", "\nundo", "gifts lamp", "guests ann",
                "row ann", "table lamp", "holding ann", "events 1", "rows 1", "save gifts", "save ", "load", "Load gifts", "load\ngifts",
                "load gifts\n", "load gifts\nadd lamp", "load\tgifts", "quit", "help", "do", "run", "log", "party", "twin", "none", "-",
                "ranking", "ranking ann bob", "ranking Ann", "ranking ", "ranking ann ", "ranking  ann", "ranking abcdefghi", "ranking -",
                "gift", "gift lamp vase", "gift Lamp", "gift ", "gift -", "gift 1", "guest", "guest ann bob", "guest a1", "guest  ann",
                "turn", "turn ann bob", "turn Ann", "turn ", "turn ann ", "turn  ann", "turn ann:", "turn -", "turn abcdefghi", "turn\tann",
                "leave", "leave ann ann", "leave 1", "leave ann\n", "break", "break lamp vase", "break LAMP", "break ", "break lamp\r",
                "arrive", "arrive ", "arrive Cy vase lamp", "arrive cy vase Lamp", "arrive cy vase lamp ", "arrive cy  vase lamp",
                "arrive cy vase -", "arrive cy vase 1", "arrive cy ", "arrive abcdefghi", "arrive cy vase abcdefghi", "arrive - lamp",
                "add", "add ball", "add ball 0", "add ball 0 0 0", "add ball 0 0 ", "add ball  0 0", "add Ball 0 0", "add 0 0", "add ball 0 a",
                "add ball 0 -1", "add ball 0 +1", "add ball 00 0", "add ball 0 01", "add ball 0 1000000", "add ball 1234567 0",
                "add ball 0 1.0", "add ball 0 \u0661", "add ball 0 \u00b2", "add ball 0 1_0", "add ball 0 " + "9" * 5000, "add lamp 0",
                "add lamp", "add - 0 0", "add ball 0 ''", "row vase", "gifts none", "events events", "\u00e9", "turn \u0430nn", "loads gifts"):
            self.check_command(desk, command)
        # There is nobody here, so `add` has no indexes.
        for command in ("add ball 0", "add ball 0 0", "add ball "):
            self.check_command(Desk(), command)

    def test_errors_of_the_feast(self):
        desk = at_work(*BEGUN)
        before = told(desk.feast())
        for command, error, field, value in (
                ("arrive ann vase lamp", DuplicateGuest, "guest", "ann"), ("arrive ann", DuplicateGuest, "guest", "ann"),
                ("arrive cy", InvalidRanking, "guest", "cy"), ("arrive cy vase", InvalidRanking, "guest", "cy"),
                ("arrive cy vase vase", InvalidRanking, "guest", "cy"), ("arrive cy vase lamp ball", InvalidRanking, "guest", "cy"),
                ("arrive cy " + "lamp " * 50 + "vase", InvalidRanking, "guest", "cy"), ("turn cy", UnknownGuest, "guest", "cy"),
                ("turn lamp", UnknownGuest, "guest", "lamp"), ("leave cy", UnknownGuest, "guest", "cy"), ("break ball", UnknownGift, "gift", "ball"),
                ("break ann", UnknownGift, "gift", "ann"), ("add lamp 0 0", DuplicateGift, "gift", "lamp"),
                ("add lamp 999999 999999", DuplicateGift, "gift", "lamp"), ("add ball 0 3", InvalidRanking, "guest", "bob"),
                ("add ball 3 3", InvalidRanking, "guest", "ann"), ("add ball 999999 0", InvalidRanking, "guest", "ann"),
                ("add ball 0 100000", InvalidRanking, "guest", "bob"), ("ranking cy", UnknownGuest, "guest", "cy"),
                ("ranking lamp", UnknownGuest, "guest", "lamp"), ("gift ball", UnknownGift, "gift", "ball"), ("gift ann", UnknownGift, "gift", "ann"),
                ("guest cy", UnknownGuest, "guest", "cy"), ("guest vase", UnknownGuest, "guest", "vase")):
            with self.subTest(command=command):
                self.assertEqual(getattr(raised(self, error, desk.execute, command), field), value)
                self.assertEqual(told(desk.feast()), before)
        self.assertEqual(desk.execute("add ball 0 2"), "ann ball -")

    def test_too_many_guests_and_gifts(self):
        desk = at_work(*["arrive " + guest for guest in MANY_GUESTS[:16]])
        self.assertEqual(raised(self, TooLarge, desk.execute, "arrive zoe").limit, 16)
        # There may be at most twelve guests for `rows`.
        self.assertEqual(raised(self, TooLarge, desk.execute, "rows").limit, 12)
        for _ in range(4):
            desk.execute("undo")
        self.assertEqual(desk.execute("rows"), "479001600")
        desk = at_work(*["add " + gift for gift in MANY_GIFTS[:16]])
        self.assertEqual(raised(self, TooLarge, desk.execute, "add lamp").limit, 16)

    def test_an_error_keeps_what_can_be_redone(self):
        desk = at_work(*BEGUN)
        desk.execute("undo")
        raised(self, UnknownGuest, desk.execute, "turn bob")
        raised(self, InvalidCommand, desk.execute, "turn")
        raised(self, InvalidText, desk.execute, "load ")
        self.assertEqual([desk.execute("redo"), desk.execute("events")], ["ok", "4"])

    def test_guests_and_gifts_that_are_called_like_commands(self):
        desk = at_work("add undo", "add load", "arrive save undo load", "arrive row load undo")
        self.assertEqual(desk.execute("holding"), "save undo; row load")
        self.assertEqual([desk.execute("gift load"), desk.execute("guest save"), desk.execute("ranking row"), desk.execute("turn row")],
                         ["2 table -; 4 held row", "3 holds undo", "load undo", "row load -"])


class DeskTest(unittest.TestCase):
    def test_a_desk_keeps_a_twin(self):
        feast = Feast(["lamp", "vase"])
        feast.run([("arrive", "ann", ("vase", "lamp")), ("turn", "ann")])
        feast.do(("turn", "ann"))
        feast.undo()
        for desk in (Desk(feast), Desk(feast=feast)):
            before = told(feast)
            self.assertEqual(told(desk.feast()), before)
            self.assertEqual([desk.execute(command) for command in ("redo", "undo", "undo", "undo", "events")],
                             ["ok", "ok", "ok", "none", "0"])
            self.assertEqual(told(feast), before)
        desk = Desk(feast)
        feast.do(("leave", "ann"))
        self.assertEqual(desk.execute("holding"), "ann vase")

    def test_a_desk_returns_twins(self):
        desk = at_work(*BEGUN)
        feast = desk.feast()
        self.assertIs(type(feast), Feast)
        before = told(feast)
        feast.do(("leave", "ann"))
        self.assertEqual(told(desk.feast()), before)
        self.assertEqual(desk.execute("events"), "4")
        feast = desk.feast()
        desk.execute("undo")
        self.assertEqual(told(feast), before)

    def test_a_desk_without_a_feast(self):
        for desk in (Desk(), Desk(None), Desk(feast=None)):
            self.assertEqual(desk.feast(), Feast([]))
            self.assertEqual(desk.execute(command="save"), "gifts")
        # An empty feast is a feast, too.
        self.assertEqual(Desk(Feast(["lamp"])).execute("gifts"), "lamp")

    def test_methods_stand_in_the_class(self):
        self.assertEqual(Desk.__module__, module.__name__)
        for name in ("__init__", "execute", "feast"):
            self.assertIn(name, vars(Desk))
