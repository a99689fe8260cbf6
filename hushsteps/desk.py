"""Desks: commands in words about a house, a sleeper and a live house."""

from hushsteps.errors import InvalidCommand
from hushsteps.forms import is_numeral
from hushsteps.guests import fewest, unheard
from hushsteps.houses import House
from hushsteps.live import Live
from hushsteps.sleepers import FIRSTS, Sleeper

# What stands behind the first word of a command, and which commands have a text or an event of any words there.
FORMS = {
    "begin": ("number", "number", "first"),
    "place": ("person",),
    "unheard": ("first",),
    "fewest": ("first", "room"),
    "undo": (),
}
OPEN_ENDED = ("house", "sleeper", "do")
# Which commands want nothing, and which want a live house; all others want a house and a sleeper.
UNCONDITIONAL = ("house", "sleeper")
ON_LIVE = ("do", "place", "undo")


def words_of(command):
    """The words of a command; there are none if any value is no string, or has a newline."""
    if not isinstance(command, str) or "\n" in command:
        return []
    return command.split(" ")


def is_early(desk, word):
    """Whether a command, given by its first word, wants what is lacking."""
    if word in UNCONDITIONAL:
        return False
    if desk.own_house is None or desk.own_sleeper is None:
        return True
    return word in ON_LIVE and desk.live is None


def has_form(desk, words):
    """Whether the right words stand behind the first word of a command."""
    if words[0] in OPEN_ENDED:
        return len(words) > 1
    kinds = FORMS[words[0]]
    return len(words) == len(kinds) + 1 and all([fits(desk, kind, word) for kind, word in zip(kinds, words[1:])])


def fits(desk, kind, word):
    """Whether a word is of a kind."""
    if kind == "first":
        return word in FIRSTS
    if not is_numeral(word):
        return False
    if kind == "person":
        return int(word) < len(desk.live.played.places)
    return kind == "number" or int(word) < desk.own_house.rooms


def text_of(words):
    """The text that stands behind the first word of a command."""
    return " ".join(words[1:]).replace(" ; ", "\n")


def state_text(state):
    """The text of a state."""
    return " ".join([str(part) for part in state])


def take_house(desk, words):
    """Keeps another house, in which nobody walks so far."""
    house = House.read(text_of(words))
    desk.own_house = house
    desk.live = None
    return str(len(house))


def take_sleeper(desk, words):
    """Keeps another sleeper, to whom what is live happens from now on."""
    sleeper = Sleeper.read(text_of(words))
    if desk.live is not None:
        desk.live.change(sleeper)
    desk.own_sleeper = sleeper
    return str(len(sleeper.sorts))


def begin_live(desk, words):
    """Begins a new live house."""
    desk.live = Live(desk.own_house, desk.own_sleeper, int(words[1]), int(words[2]), words[3])
    return state_text(desk.live.played.state)


def do_event(desk, words):
    """Does an event in the live house."""
    return state_text(desk.live.do(" ".join(words[1:])))


def tell_place(desk, words):
    """Tells the room of a person."""
    return str(desk.live.played.places[int(words[1])])


def tell_unheard(desk, words):
    """Tells the rooms to which guests can come unheard."""
    return " ".join([str(room) for room in unheard(desk.own_house, desk.own_sleeper, words[1])])


def tell_fewest(desk, words):
    """Tells with how few ticks a guest can come to a room unheard."""
    ticks = fewest(desk.own_house, desk.own_sleeper, words[1], int(words[2]))
    return "never" if ticks is None else str(ticks)


def undo_deed(desk, words):
    """Takes back the last deed of the live house."""
    return "undone" if desk.live.undo() else "nothing"


ACTIONS = {
    "house": take_house,
    "sleeper": take_sleeper,
    "begin": begin_live,
    "do": do_event,
    "place": tell_place,
    "unheard": tell_unheard,
    "fewest": tell_fewest,
    "undo": undo_deed,
}


def is_allowed(desk, words):
    """Whether words are those of a command that this desk can do now."""
    if len(words) == 0 or "" in words or words[0] not in ACTIONS:
        return False
    return not is_early(desk, words[0]) and has_form(desk, words)


class Desk:
    """A desk at which commands are done."""

    def __init__(self):
        self.own_house = None
        self.own_sleeper = None
        self.live = None

    def say(self, command):
        """Does a command and returns the text that it leads to."""
        words = words_of(command)
        if not is_allowed(self, words):
            raise InvalidCommand()
        action = ACTIONS[words[0]]
        return action(self, words)
