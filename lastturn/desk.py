"""The desk: a feast that is run by commands."""

from lastturn.errors import InvalidCommand
from lastturn.feasts import Feast
from lastturn.names import is_name
from lastturn.rows import count_rows
from lastturn.texts import event_of, format_feast, format_takes, or_dash, parse_feast

# What separates the lines of a feast's text in commands and answers.
BREAK = " / "


def listed(names):
    """Return the names, separated by spaces, or `none`."""
    return " ".join(list(names)) if names else "none"


def told(story):
    """Return a story in one line."""
    return "; ".join([f"{number} {status} {or_dash(name)}" for number, status, name in story])


def undone(feast):
    """Undo a step."""
    return "ok" if feast.undo() else "none"


def redone(feast):
    """Redo a step."""
    return "ok" if feast.redo() else "none"


def all_gifts(feast):
    """Return the gifts."""
    return listed(feast.party().wishes().gifts())


def all_guests(feast):
    """Return the guests."""
    return listed(feast.party().wishes().guests())


def row_now(feast):
    """Return the row."""
    return listed(feast.party().row())


def table_now(feast):
    """Return the gifts on the table."""
    return listed(feast.party().table())


def holding_now(feast):
    """Return what each guest holds."""
    holding = feast.party().holding()
    if not holding:
        return "none"
    return "; ".join([f"{guest} {or_dash(gift)}" for guest, gift in holding.items()])


def many_events(feast):
    """Return the number of events in effect."""
    return str(len(feast))


def many_rows(feast):
    """Return the number of rows of the holding."""
    party = feast.party()
    return str(count_rows(party.wishes(), party.holding()))


def saved(feast):
    """Return the text of the feast."""
    return format_feast(feast).replace("\n", BREAK)


def ranking_of(feast, guest):
    """Return the ranking of a guest."""
    return listed(feast.party().wishes().ranking(guest))


def told_of_gift(feast, gift):
    """Return the story of a gift."""
    return told(feast.gift_story(gift))


def told_of_guest(feast, guest):
    """Return the story of a guest."""
    return told(feast.guest_story(guest))


# What answers the commands of one word, and those of a word and a name.
ANSWERS = {"undo": undone, "redo": redone, "gifts": all_gifts, "guests": all_guests, "row": row_now, "table": table_now,
           "holding": holding_now, "events": many_events, "rows": many_rows, "save": saved}
ANSWERS_ABOUT = {"ranking": ranking_of, "gift": told_of_gift, "guest": told_of_guest}


class Desk:
    """A desk with a twin of the feast, or with a feast without gifts."""

    def __init__(self, feast=None):
        self._feast = Feast([]) if feast is None else feast.twin()

    def execute(self, command):
        """Execute a command. Return its answer, a string."""
        if not isinstance(command, str) or "\n" in command:
            raise InvalidCommand(command)
        word, space, rest = command.partition(" ")
        if word == "load" and space == " ":
            self._feast = parse_feast(rest.replace(BREAK, "\n"))
            return "ok"
        event = event_of(command.split(" "), self._feast.party().wishes().guests())
        if event is not None:
            return format_takes(self._feast.do(event))
        if command in ANSWERS:
            answer = ANSWERS[command]
            return answer(self._feast)
        if word in ANSWERS_ABOUT and is_name(rest):
            answer = ANSWERS_ABOUT[word]
            return answer(self._feast, rest)
        raise InvalidCommand(command)

    def feast(self):
        """Return a twin of the feast."""
        return self._feast.twin()
