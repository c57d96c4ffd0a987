"""Texts of Wishes, parties, takes, logs and feasts, and the values with these texts."""

from lastturn.errors import (DuplicateGift, DuplicateGuest, InvalidRanking, InvalidText, TooLarge, UnknownGift,
                             UnknownGuest)
from lastturn.feasts import Feast
from lastturn.names import GIFTS, GUESTS, are_names, is_name, is_order
from lastturn.parties import Party
from lastturn.wishes import Wishes

DIGITS = "0123456789"


def line_of(words, names):
    """Return a line of these words and names."""
    return " ".join(list(words) + list(names))


def or_dash(name):
    """Return the name, or `-` for None."""
    return "-" if name is None else name


def or_none(word):
    """Return the name, or None for `-`."""
    return None if word == "-" else word


def wishes_lines(wishes):
    """Return the lines of Wishes."""
    guests = [line_of(("guest", guest), ranking) for guest, ranking in wishes.rankings().items()]
    return [line_of(("gifts",), wishes.gifts())] + guests


def format_wishes(wishes):
    """Return the text of Wishes."""
    return "\n".join(wishes_lines(wishes))


def format_party(party):
    """Return the text of a Party."""
    return "\n".join(wishes_lines(party.wishes()) + [line_of(("row",), party.row())])


def format_takes(takes):
    """Return the text of takes, in one line."""
    if not takes:
        return "none"
    return "; ".join([f"{guest} {or_dash(gift)} {or_dash(source)}" for guest, gift, source in takes])


def format_log(gifts, log):
    """Return the text of a log with its gifts."""
    events = [f"{kind} {guest}: {format_takes(takes)}" for kind, guest, takes in log]
    return "\n".join([line_of(("gifts",), gifts)] + events)


def event_line(event):
    """Return the line of an event of a feast."""
    if event[0] == "arrive":
        return line_of(event[:2], event[2])
    if event[0] == "add":
        return line_of(event[:2], [str(index) for index in event[2].values()])
    return line_of(event, ())


def format_feast(feast):
    """Return the text of a feast."""
    return "\n".join([line_of(("gifts",), feast.opening())] + [event_line(event) for event in feast.events()])


def lines_of(text):
    """Return the list of the lines of a text."""
    if not isinstance(text, str):
        raise InvalidText(0)
    return text.split("\n")


def gifts_of(lines):
    """Return the list of the gifts in the first line."""
    words = lines[0].split(" ")
    gifts = words[1:]
    if words[0] != "gifts" or not are_names(gifts) or len(gifts) > GIFTS:
        raise InvalidText(0)
    return gifts


def rankings_of(lines, gifts):
    """Return the rankings in the lines behind the first one, as far as these are lines of guests."""
    rankings = {}
    for line in lines[1:]:
        words = line.split(" ")
        if (len(rankings) == GUESTS or len(words) < 2 or words[0] != "guest" or not is_name(words[1])
                or words[1] in rankings or not is_order(words[2:], gifts)):
            return rankings
        rankings[words[1]] = words[2:]
    return rankings


def parse_wishes(text):
    """Return the Wishes with this text."""
    lines = lines_of(text)
    gifts = gifts_of(lines)
    rankings = rankings_of(lines, gifts)
    if len(lines) > len(rankings) + 1:
        raise InvalidText(len(rankings) + 1)
    return Wishes(gifts, rankings)


def parse_party(text):
    """Return the Party with this text."""
    lines = lines_of(text)
    gifts = gifts_of(lines)
    rankings = rankings_of(lines, gifts)
    last = len(rankings) + 1
    if len(lines) == last:
        raise InvalidText(last)
    words = lines[last].split(" ")
    if words[0] != "row" or not is_order(words[1:], list(rankings)):
        raise InvalidText(last)
    if len(lines) > last + 1:
        raise InvalidText(last + 1)
    return Party(Wishes(gifts, rankings), words[1:])


def takes_in(text):
    """Return the takes with this text, or None if there are none with it."""
    if text == "none":
        return []
    takes = []
    for part in text.split("; "):
        words = part.split(" ")
        if len(words) != 3 or not is_name(words[0]) or not all([word == "-" or is_name(word) for word in words[1:]]):
            return None
        takes.append((words[0], or_none(words[1]), or_none(words[2])))
    return takes


def record_in(line):
    """Return the event of a log in this line, or None if there is none with it."""
    head, _, text = line.partition(": ")
    words = head.split(" ")
    takes = takes_in(text)
    if len(words) != 2 or words[0] not in ("arrive", "turn") or not is_name(words[1]) or takes is None:
        return None
    return words[0], words[1], takes


def parse_log(text):
    """Return (gifts, log), two lists, with this text."""
    lines = lines_of(text)
    gifts = gifts_of(lines)
    log = []
    for line in lines[1:]:
        event = record_in(line)
        if event is None:
            raise InvalidText(len(log) + 1)
        log.append(event)
    return gifts, log


def is_index(word):
    """Return True if the word is an integer of at most six digits, without a sign and leading zeros."""
    if not 1 <= len(word) <= 6 or not all([letter in DIGITS for letter in word]):
        return False
    return word == "0" or word[0] != "0"


def event_of(words, guests):
    """Return the event in a line of these words, at a feast with these guests, or None if it is not such a line."""
    if len(words) < 2 or not is_name(words[1]):
        return None
    rest = words[2:]
    if words[0] in ("turn", "leave", "break") and not rest:
        return tuple(words)
    if words[0] == "arrive" and all([is_name(word) for word in rest]):
        return words[0], words[1], tuple(rest)
    if words[0] == "add" and len(rest) == len(guests) and all([is_index(word) for word in rest]):
        return words[0], words[1], dict(zip(guests, [int(word) for word in rest]))
    return None


def parse_feast(text):
    """Return the Feast with this text, with one step for each event."""
    lines = lines_of(text)
    feast = Feast(gifts_of(lines))
    for number, line in enumerate(lines):
        if number > 0:
            event = event_of(line.split(" "), feast.party().wishes().guests())
            if event is None:
                raise InvalidText(number)
            try:
                feast.do(event)
            except (DuplicateGuest, DuplicateGift, UnknownGuest, UnknownGift, InvalidRanking, TooLarge):
                raise InvalidText(number) from None
    return feast
