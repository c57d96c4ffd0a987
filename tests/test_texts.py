"""Points 74 and 75: texts, and the values with these texts."""

import re
import unittest

from feasting import CARRY, possible_event
from helpers import MANY_GIFTS, MANY_GUESTS, any_values, raised, random_party, random_wishes, same_kind, seeded
from lastturn import texts
from lastturn.errors import InvalidText
from lastturn.feasts import Feast
from lastturn.parties import Party
from lastturn.texts import (format_feast, format_log, format_party, format_takes, format_wishes, parse_feast, parse_log,
                            parse_party, parse_wishes)
from lastturn.wishes import Wishes
from logbook import G, L, as_lists, random_log

NAME = "[a-z]{1,8}"
TAKE = f"{NAME} ({NAME}|-) ({NAME}|-)"
INDEX = "(0|[1-9][0-9]*)"


def wishes():
    """Return Wishes of two guests whose order is not alphabetical."""
    return Wishes(["vase", "lamp"], {"zoe": ("lamp", "vase"), "ann": ("vase", "lamp")})


def opening_gifts(line):
    """Return the gifts of the first line, or None if it is not such a line."""
    gifts = line.split(" ")[1:]
    return gifts if re.fullmatch(f"gifts( {NAME})*", line) and len(set(gifts)) == len(gifts) <= 16 else None


def wrong_line_of_wishes(lines, row=False):
    """Return the first line that is wrong in a text of Wishes or, with a row, of a Party; None if there is none."""
    gifts = opening_gifts(lines[0])
    if gifts is None:
        return 0
    guests = []
    for number, line in enumerate(lines[1:], start=1):
        if row and re.fullmatch(f"row( {NAME})*", line):
            if sorted(line.split(" ")[1:]) != sorted(guests):
                return number
            return None if len(lines) == number + 1 else number + 1
        words = line.split(" ")
        if (not re.fullmatch(f"guest {NAME}( {NAME})*", line) or words[1] in guests or len(guests) == 16
                or sorted(words[2:]) != sorted(gifts)):
            return number
        guests.append(words[1])
    return len(lines) if row else None


def wrong_line_of_log(lines):
    """Return the first line that is wrong in a text of a log; None if there is none."""
    if opening_gifts(lines[0]) is None:
        return 0
    for number, line in enumerate(lines[1:], start=1):
        if not re.fullmatch(f"(arrive|turn) {NAME}: (none|{TAKE}(; {TAKE})*)", line):
            return number
    return None


def wrong_line_of_feast(lines):
    """Return the first line that is wrong in a text of a feast; None if there is none."""
    gifts = opening_gifts(lines[0])
    if gifts is None:
        return 0
    party = Party(Wishes(gifts, {}), ())
    for number, line in enumerate(lines[1:], start=1):
        words = line.split(" ")
        if re.fullmatch(f"arrive {NAME}( {NAME})*", line):
            event = (words[1], words[2:])
        elif re.fullmatch(f"(turn|leave|break) {NAME}", line):
            event = (words[1],)
        elif re.fullmatch(f"add {NAME}( {INDEX})*", line):
            guests = party.wishes().guests()
            if len(words) != len(guests) + 2 or any(len(word) > 6 for word in words[2:]):
                return number
            event = (words[1], dict(zip(guests, map(int, words[2:]))))
        else:
            return number
        try:
            party, _ = CARRY[words[0]](party, *event)
        except (KeyError, ValueError, ArithmeticError):
            return number
        if number > 200:
            return number
    return None


WORDS = ["gifts", "guest", "row", "arrive", "turn", "leave", "add", "break", "none", "-", "0", "1", "2", "00", "01", "+1", "-1",
         "", "ga", "pa", "ann", "Ann", "abcdefghi", "ann:", ":", ";", "1000000", "ann;", "\t", "7", "undo", "gb", "pb"]
CHARACTERS = " \n-;:/0az,A\t\r\x00\u00e9_."


def changed_text(rng, text):
    """Return the text with a word, a character or a line changed, removed, doubled or in another place."""
    way = rng.random()
    sign = " " if way < 0.5 else "\n" if way < 0.75 else ""
    parts = list(text) if sign == "" else text.split(sign)
    if not parts:
        return rng.choice(WORDS)
    at, other = rng.randrange(len(parts)), rng.randrange(len(parts))
    how = rng.random()
    if how < 0.25:
        del parts[at]
    elif how < 0.4:
        parts.insert(other, parts[at])
    elif how < 0.6:
        parts[at], parts[other] = parts[other], parts[at]
    elif how < 0.7:
        parts.insert(at, rng.choice(WORDS if sign else CHARACTERS))
    else:
        parts[at] = rng.choice(WORDS if sign == " " else CHARACTERS) if sign != "\n" else rng.choice(
            parts + ["row", "gifts", "guest ann", "turn ann", "add lamp", " ".join(rng.sample(WORDS, 3))])
    return sign.join(parts)


class ParserTest(unittest.TestCase):
    def check_parser(self, parse, back, text, wrong):
        """Check what the parser does with the text: `wrong` is the first wrong line, or None."""
        if wrong is None:
            self.assertEqual(back(parse(text)), text)
        else:
            error = raised(self, InvalidText, parse, text)
            self.assertTrue(same_kind(error.line, wrong), (text, error.line, wrong))

    def check_changes(self, rng, parse, back, text, wrong_line):
        """Check the parser with the text and with changed ones; return which lines were wrong."""
        self.assertIs(wrong_line(text.split("\n")), None)
        self.check_parser(parse, back, text, None)
        found = []
        for _ in range(40):
            other = changed_text(rng, text)
            if rng.random() < 0.4:
                other = changed_text(rng, other)
            found.append(wrong_line(other.split("\n")))
            self.check_parser(parse, back, other, found[-1])
        lines = text.split("\n")
        for count in range(len(lines)):
            prefix = "\n".join(lines[:count])
            self.check_parser(parse, back, prefix, wrong_line(prefix.split("\n")))
        return found

    def check_values(self, parse):
        """Check values of every kind, first lines that no text has, and second lines that no text of this kind has."""
        for value in any_values() + [["gifts"], ("gifts lamp",)]:
            if not isinstance(value, str):
                self.assertTrue(same_kind(raised(self, InvalidText, parse, value).line, 0))
                self.assertTrue(same_kind(raised(self, InvalidText, parse, text=value).line, 0))
        for text in ("", " ", "\n", "gift", "Gifts", "gifts ", " gifts", "gifts  lamp", "gifts lamp ", "gifts\tlamp", "gifts Lamp",
                     "gifts lamp lamp", "gifts abcdefghi", "gifts lamp,vase", "gifts -", "lamp", "\ngifts", "gifts lamp\r", "gifts\r",
                     "gifts " + " ".join(MANY_GIFTS[:17]), "gifts lamp vase lamp", "gifts 1", "giftslamp", "gifts \u00e9"):
            self.assertEqual(raised(self, InvalidText, parse, text).line, 0)
            self.assertEqual(raised(self, InvalidText, parse, text + "\nturn ann").line, 0)
        for line in ("", " ", "gifts", "gifts lamp", "ann", "come ann", "guest", "turn", "arrive", "none", "-", "/", "turn  ann"):
            self.assertEqual(raised(self, InvalidText, parse, "gifts lamp\n" + line).line, 1)
            self.assertEqual(raised(self, InvalidText, parse, "gifts lamp\n" + line + "\nrow").line, 1)


class WishesTest(ParserTest):
    def test_by_hand(self):
        text = "gifts vase lamp\nguest zoe lamp vase\nguest ann vase lamp"
        self.assertTrue(same_kind(format_wishes(wishes()), text))
        self.assertEqual(format_wishes(wishes=wishes()), text)
        self.assertEqual(parse_wishes(text), wishes())
        self.assertEqual(parse_wishes(text=text), wishes())
        for value, short in ((Wishes([], {}), "gifts"), (Wishes(["lamp"], {}), "gifts lamp"),
                             (Wishes([], {"ann": (), "gifts": ()}), "gifts\nguest ann\nguest gifts")):
            self.assertEqual(format_wishes(value), short)
            self.assertEqual(parse_wishes(short), value)

    def test_wishes_by_chance(self):
        rng = seeded(171)
        wrong = []
        for _ in range(60):
            value = random_wishes(rng, rng.choice((0, 1, 2, 3, 4, 16)), rng.choice((0, 1, 2, 3, 16)))
            text = format_wishes(value)
            self.assertEqual(parse_wishes(text), value)
            wrong += self.check_changes(rng, parse_wishes, format_wishes, text, wrong_line_of_wishes)
        self.assertTrue({None, 0, 1, 2, 3} <= set(wrong))

    def test_wrong_lines(self):
        text = "gifts vase lamp\nguest zoe lamp vase\n"
        for line in ("guest zoe vase lamp", "guest ann lamp", "guest ann lamp lamp", "guest ann lamp vase vase", "guest ann",
                     "guest Ann lamp vase", "guest lamp vase", "guest ann vase ball", "row zoe", "row", "", "guest ann lamp vase ",
                     "guest  ann lamp vase", "guest ann lamp  vase", "Guest ann lamp vase", "guest ann lamp -"):
            self.assertEqual(raised(self, InvalidText, parse_wishes, text + line).line, 2)
            self.assertEqual(raised(self, InvalidText, parse_wishes, text + line + "\n\n").line, 2)
            self.assertEqual(wrong_line_of_wishes((text + line).split("\n")), 2)
        self.assertEqual(raised(self, InvalidText, parse_wishes, "gifts vase lamp\nguest zoe lamp vase\n").line, 2)
        lines = ["gifts"] + [f"guest {guest}" for guest in MANY_GUESTS[:17]]
        self.assertEqual(raised(self, InvalidText, parse_wishes, "\n".join(lines)).line, 17)
        self.assertEqual(parse_wishes("\n".join(lines[:17])).guests(), MANY_GUESTS[:16])
        self.check_values(parse_wishes)


class PartyTest(ParserTest):
    def test_by_hand(self):
        party = Party(wishes(), ("ann", "zoe"))
        text = "gifts vase lamp\nguest zoe lamp vase\nguest ann vase lamp\nrow ann zoe"
        self.assertTrue(same_kind(format_party(party), text))
        self.assertEqual(format_party(party=party), text)
        self.assertEqual(parse_party(text), party)
        self.assertEqual(parse_party(text=text), party)
        self.assertIs(type(parse_party(text)), Party)
        for value, short in ((Party(Wishes([], {}), ()), "gifts\nrow"), (Party(Wishes(["row"], {}), ()), "gifts row\nrow"),
                             (Party(Wishes([], {"row": ()}), ("row",)), "gifts\nguest row\nrow row")):
            self.assertEqual(format_party(value), short)
            self.assertEqual(parse_party(short), value)

    def test_parties_by_chance(self):
        rng = seeded(172)
        wrong = []
        for _ in range(60):
            value = random_party(rng, rng.choice((0, 1, 2, 3, 16)), rng.choice((0, 1, 2, 3, 16)))
            text = format_party(value)
            self.assertEqual(parse_party(text), value)
            wrong += self.check_changes(rng, parse_party, format_party, text, lambda lines: wrong_line_of_wishes(lines, True))
        self.assertTrue({None, 0, 1, 2, 3, 4} <= set(wrong))

    def test_wrong_lines(self):
        text = "gifts vase lamp\nguest zoe lamp vase\nguest ann vase lamp"
        self.assertEqual(raised(self, InvalidText, parse_party, text).line, 3)
        self.assertEqual(raised(self, InvalidText, parse_party, "gifts").line, 1)
        for line in ("row", "row ann", "row ann ann", "row ann zoe zoe", "row ann bob", "row  ann zoe", "row ann zoe ", "Row ann zoe",
                     "", "guest ann lamp vase", "row ann,zoe", "rows ann zoe", "ann zoe", "guest row"):
            self.assertEqual(raised(self, InvalidText, parse_party, text + "\n" + line).line, 3)
            self.assertEqual(raised(self, InvalidText, parse_party, text + "\n" + line + "\nrow ann zoe").line, 3)
        for line in ("", "row ann zoe", "guest bob lamp vase", " "):
            self.assertEqual(raised(self, InvalidText, parse_party, text + "\nrow ann zoe\n" + line).line, 4)
        self.assertEqual(raised(self, InvalidText, parse_party, "gifts\nrow\nguest ann\nrow ann").line, 2)
        lines = ["gifts"] + [f"guest {guest}" for guest in MANY_GUESTS[:17]]
        row = "row " + " ".join(MANY_GUESTS[:16])
        self.assertEqual(parse_party("\n".join(lines[:17] + [row])).row(), tuple(MANY_GUESTS[:16]))
        self.assertEqual(raised(self, InvalidText, parse_party, "\n".join(lines)).line, 17)
        self.check_values(parse_party)


class TakesTest(unittest.TestCase):
    def test_by_hand(self):
        takes = [("cy", "vase", "bob"), ("bob", "lamp", "ann"), ("ann", None, None)]
        self.assertTrue(same_kind(format_takes(takes), "cy vase bob; bob lamp ann; ann - -"))
        self.assertEqual(format_takes(takes=as_lists(takes)), "cy vase bob; bob lamp ann; ann - -")
        self.assertEqual(format_takes(tuple(takes[:1])), "cy vase bob")
        self.assertEqual(format_takes([("ann", "vase", None)]), "ann vase -")
        self.assertEqual([format_takes([]), format_takes(())], ["none", "none"])
        # The form alone counts.
        self.assertEqual(format_takes([("ann", None, "bob"), ("ann", "ann", "ann")]), "ann - bob; ann ann ann")


class LogTest(ParserTest):
    def back(self, found):
        self.assertIs(type(found), tuple)
        self.assertEqual([type(part) for part in found], [list, list])
        for event in found[1]:
            self.assertEqual([type(event), type(event[2])], [tuple, list])
            self.assertTrue(all(type(take) is tuple for take in event[2]))
        return format_log(*found)

    def test_examples_of_the_document(self):
        feast = parse_feast("gifts lamp vase\narrive ann vase lamp\narrive bob vase lamp")
        text = "gifts lamp vase\narrive ann: ann vase -\narrive bob: bob vase ann; ann lamp -"
        self.assertTrue(same_kind(format_log(feast.opening(), feast.log()), text))
        self.assertEqual(raised(self, InvalidText, parse_feast, "gifts lamp vase\nturn ann").line, 1)

    def test_by_hand(self):
        text = ("gifts ball kite lamp\narrive ann: ann kite -\narrive bob: bob kite ann; ann ball -\n"
                "arrive cy: cy ball ann; ann kite bob; bob lamp -")
        self.assertEqual(format_log(G, L), text)
        self.assertEqual(format_log(log=as_lists(L), gifts=tuple(G)), text)
        self.assertTrue(same_kind(parse_log(text), (G, L)))
        self.assertTrue(same_kind(parse_log(text="gifts"), ([], [])))
        self.assertEqual(format_log([], ()), "gifts")
        # The form alone counts: these logs are not valid.
        for gifts, log in ((["lamp"], [("turn", "ann", [])]), ([], [("arrive", "ann", [("bob", None, "vase"), ("ann", "vase", None)])])):
            found = format_log(gifts, log)
            self.assertTrue(same_kind(parse_log(found), (gifts, log)))
        self.assertEqual(format_log(["lamp"], [("turn", "ann", [])]), "gifts lamp\nturn ann: none")

    def test_logs_by_chance(self):
        rng = seeded(173)
        wrong = []
        for _ in range(60):
            gifts, log, _ = random_log(rng, rng.randrange(5), rng.randrange(1, 4), rng.randrange(7), 0.2)
            text = format_log(gifts, log)
            self.assertTrue(same_kind(parse_log(text), (gifts, log)))
            wrong += self.check_changes(rng, parse_log, self.back, text, wrong_line_of_log)
        self.assertTrue({None, 0, 1, 2, 3} <= set(wrong))

    def test_any_number_of_events(self):
        log = [("arrive", "ann", [("ann", "kite", None)])] + [("turn", "ann", [("ann", "kite", None)])] * 500
        self.assertTrue(same_kind(parse_log(format_log(G, log)), (G, log)))
        text = "gifts\n" + "\n".join(f"arrive {guest}: none" for guest in MANY_GUESTS)
        self.assertEqual(len(parse_log(text)[1]), 26)

    def test_wrong_lines(self):
        text = "gifts lamp\narrive ann: ann lamp -\n"
        for line in ("turn ann:", "turn ann", "turn ann: ", "turn ann: ann lamp", "turn ann: ann lamp - -", "turn ann: - lamp -",
                     "turn ann: ann lamp -;", "turn ann: ann lamp -; ", "turn ann: ann lamp -;ann lamp -", "turn ann:ann lamp -",
                     "turn ann : ann lamp -", "turn ann:  ann lamp -", "turn ann: ann  lamp -", "turn ann: ann lamp -;  ann lamp -",
                     "leave ann: none", "Turn ann: none", "turn Ann: none", "turn: none", "turn ann bob: none", "turn ann: None",
                     "turn ann: none; none", "turn ann: ann lamp -; none", "turn ann: ann Lamp -", "turn ann: ann lamp 1", "turn -: none",
                     "turn ann: ann lamp -\r", "turn ann: ann lamp --", ": none", "turn ann: none ", "turn  ann: none", "",
                     "turn ann: ann lamp bob: none", "turn ann: ann lamp abcdefghi"):
            self.assertEqual(raised(self, InvalidText, parse_log, text + line).line, 2, line)
            self.assertEqual(raised(self, InvalidText, parse_log, text + line + "\nturn ann: none").line, 2)
            self.assertEqual(wrong_line_of_log((text + line).split("\n")), 2)
        self.check_values(parse_log)


class FeastTest(ParserTest):
    def random_feast(self, rng):
        feast = Feast(rng.sample(MANY_GIFTS, rng.randrange(4)))
        for _ in range(rng.randrange(8)):
            feast.do(possible_event(rng, feast.party()))
        return feast

    def test_by_hand(self):
        feast = Feast(["vase", "lamp"])
        feast.run([("arrive", "zoe", ("lamp", "vase")), ("arrive", "ann", ["vase", "lamp"]), ("turn", "zoe"),
                   ("add", "ball", {"ann": 2, "zoe": 0}), ("break", "vase"), ("leave", "ann"), ("turn", "zoe")])
        feast.undo()
        self.assertEqual(format_feast(feast), "gifts vase lamp")
        feast.redo()
        text = ("gifts vase lamp\narrive zoe lamp vase\narrive ann vase lamp\nturn zoe\nadd ball 0 2\nbreak vase\nleave ann\n"
                "turn zoe")
        self.assertTrue(same_kind(format_feast(feast), text))
        self.assertEqual(format_feast(feast=feast), text)
        found = parse_feast(text)
        self.assertIs(type(found), Feast)
        self.assertEqual(found, feast)
        # One step for each event, and nothing to redo.
        self.assertEqual([found.redo(), found.undo(), len(found)], [False, True, 6])
        for short in ("gifts", "gifts lamp", "gifts\nadd lamp\nadd vase\narrive ann vase lamp\nadd ball 0", "gifts\narrive ann\nturn ann"):
            self.assertEqual(format_feast(parse_feast(text=short)), short)

    def test_feasts_by_chance(self):
        rng = seeded(174)
        wrong = []
        for _ in range(80):
            feast = self.random_feast(rng)
            text = format_feast(feast)
            self.assertEqual(parse_feast(text), feast)
            self.assertTrue(same_kind(parse_feast(text).events(), feast.events()))
            wrong += self.check_changes(rng, parse_feast, format_feast, text, wrong_line_of_feast)
        self.assertTrue({None, 0, 1, 2, 3, 4} <= set(wrong))

    def test_wrong_lines(self):
        text = "gifts vase lamp\narrive zoe lamp vase\narrive ann vase lamp\n"
        for line in ("arrive ann vase lamp", "arrive bob vase", "arrive bob vase vase", "arrive bob", "arrive Bob vase lamp", "arrive",
                     "turn bob", "turn", "turn ann zoe", "turn ann ", "leave bob", "leave", "leave ann ann", "break ball", "break", "undo",
                     "break vase lamp", "add vase 0 0", "add ball", "add ball 0", "add ball 0 0 0", "add ball 0 3", "add ball 3 0",
                     "add ball 0 -1", "add ball 0 +1", "add ball 00 0", "add ball 01 0", "add ball 0 01", "add ball 0 1.", "add ball 0 a",
                     "add ball  0 0", "add ball 0 0 ", "add ball 0 1000000", "add ball 0 " + "1" * 5000, "add Ball 0 0", "add", "add 0 0",
                     "add ball 0 \u0661", "add ball 0 \u00b2", "turn ann\r", "", " ", "gifts", "row", "turn -", "add ball - -", "add ball 1e0 0"):
            self.assertEqual(raised(self, InvalidText, parse_feast, text + line).line, 3, line)
            self.assertEqual(raised(self, InvalidText, parse_feast, text + line + "\nturn ann").line, 3)
        for line in ("arrive bob vase lamp", "turn ann", "leave ann", "break vase", "add ball 0 2", "add ball 2 1", "arrive vase vase lamp"):
            self.assertEqual(format_feast(parse_feast(text + line)), text + line)
        self.check_values(parse_feast)

    def test_too_many_events_guests_and_gifts(self):
        lines = ["gifts lamp", "arrive ann lamp"] + ["turn ann"] * 205
        for count in (199, 200):
            self.assertEqual(len(parse_feast("\n".join(lines[:count + 1]))), count)
        self.assertEqual(raised(self, InvalidText, parse_feast, "\n".join(lines[:202])).line, 201)
        self.assertEqual(raised(self, InvalidText, parse_feast, "\n".join(lines)).line, 201)
        self.assertEqual(raised(self, InvalidText, parse_feast, "\n".join(lines[:150] + ["turn bob"] + lines)).line, 150)
        lines = ["gifts"] + [f"arrive {guest}" for guest in MANY_GUESTS]
        self.assertEqual(raised(self, InvalidText, parse_feast, "\n".join(lines)).line, 17)
        lines = ["gifts"] + [f"add {gift}" for gift in MANY_GIFTS]
        self.assertEqual(raised(self, InvalidText, parse_feast, "\n".join(lines)).line, 17)


class FileTest(unittest.TestCase):
    def test_defined_where_the_interface_lists_them(self):
        for function in (format_wishes, format_party, format_takes, format_log, format_feast, parse_wishes, parse_party, parse_log,
                         parse_feast):
            self.assertEqual(function.__module__, texts.__name__)

    def test_values_are_not_changed(self):
        gifts, log = list(G), as_lists(L)
        format_log(gifts, log)
        self.assertEqual((gifts, log), (G, as_lists(L)))
