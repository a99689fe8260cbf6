"""Sleepers: what a noise, a tick and humming do to them."""

from hushsteps.errors import InvalidSleeper, InvalidText
from hushsteps.forms import are_unlike, is_name, is_numeral, is_positive, is_row, is_tuple_of, is_whole

SORTS = ("faint", "loud", "soft", "sudden")
LOUD_RULES = ("again", "nothing", "wake")
# How a sleeper can be at first, and what can be hummed.
FIRSTS = ("asleep", "dozing", "up")
HUMMED = ("doze", "up")

UP = ("up",)
ASLEEP = ("asleep",)
WOKEN = ("woken",)


def is_sorted_name(value):
    """Whether any value is a pair of a name and a sort."""
    return is_tuple_of(value, 2) and is_name(value[0]) and value[1] in SORTS


def are_sorts(value):
    """Whether any value is a sequence of pairs of unlike names and their sorts."""
    if not is_row(value) or not all([is_sorted_name(pair) for pair in value]):
        return False
    return are_unlike([pair[0] for pair in value])


def has_form(words):
    """Whether words are those of a text of a sleeper."""
    if len(words) < 8 or len(words) % 2 != 0 or words[0:8:2] != ["stir", "doze", "near", "loud"]:
        return False
    if not all([is_numeral(word) for word in words[1:7:2]]) or words[7] not in LOUD_RULES:
        return False
    return are_all_sorted_names(words[8:])


def are_all_sorted_names(words):
    """Whether words are names with a sort behind each."""
    return all([is_sorted_name(pair) for pair in zip(words[0::2], words[1::2])])


class Sleeper:
    """A sleeper: the sorts of the noises that are heard, and how long things last."""

    def __init__(self, sorts, stir, doze, near, loud):
        if not are_sorts(sorts):
            raise InvalidSleeper("sorts")
        if not is_positive(stir):
            raise InvalidSleeper("stir")
        if not is_positive(doze):
            raise InvalidSleeper("doze")
        if not is_positive(near):
            raise InvalidSleeper("near")
        if loud not in LOUD_RULES:
            raise InvalidSleeper("loud")
        self.sorts = tuple(sorted(sorts))
        self.stir = stir
        self.doze = doze
        self.near = near
        self.loud = loud

    @classmethod
    def read(cls, text):
        """The sleeper with a text, in which the names with their sorts may stand in any order."""
        words = text.split(" ")
        if not has_form(words):
            raise InvalidText(0)
        sorts = list(zip(words[8::2], words[9::2]))
        return cls(sorts, int(words[1]), int(words[3]), int(words[5]), words[7])

    def __eq__(self, other):
        return (isinstance(other, Sleeper) and self.sorts == other.sorts and self.stir == other.stir
                and self.doze == other.doze and self.near == other.near and self.loud == other.loud)

    def __str__(self):
        head = f"stir {self.stir} doze {self.doze} near {self.near} loud {self.loud}"
        return " ".join([head] + [f"{name} {sort}" for name, sort in self.sorts])


def first_state(sleeper, first):
    """The state at the beginning, told by "asleep", "dozing" or "up"."""
    if first == "dozing":
        return dozing_anew(sleeper)
    return ASLEEP if first == "asleep" else UP


def heard(sleeper, state, noise):
    """The state behind a noise."""
    sort = sort_of(sleeper, noise)
    if state[0] == "asleep":
        return heard_asleep(sleeper, state, noise, sort)
    if state[0] == "dozing" and sort == "loud":
        return heard_loud_dozing(sleeper, state)
    if state[0] == "stirring" and sort == "loud":
        return WOKEN
    return state


def heard_all(sleeper, state, noises):
    """The state behind several noises, one behind the other."""
    behind = state
    for noise in noises:
        behind = heard(sleeper, behind, noise)
    return behind


def ticked(sleeper, state):
    """The state behind a tick."""
    if state[0] == "dozing":
        return ("dozing", state[1] - 1) if state[1] > 1 else ASLEEP
    if state[0] == "stirring":
        return ("stirring", state[1] - 1) if state[1] > 1 else WOKEN
    if state[0] == "asleep" and len(state) == 3:
        return ("asleep", state[1], state[2] + 1) if state[2] < sleeper.near else ASLEEP
    return state


def hummed(sleeper, state, word):
    """The state behind humming "up" or "doze"."""
    if state == WOKEN:
        return state
    return UP if word == "up" else dozing_anew(sleeper)


def dozing_anew(sleeper):
    """The state in which dozing begins."""
    return ("dozing", sleeper.doze)


def sort_of(sleeper, noise):
    """The sort of a noise, or None if it is not heard."""
    for name, sort in sleeper.sorts:
        if name == noise:
            return sort
    return None


def heard_asleep(sleeper, state, noise, sort):
    """The state behind a noise of this sort while the sleeper is asleep."""
    if sort == "soft":
        return ("stirring", sleeper.stir)
    if sort == "loud" or sort == "sudden":
        return WOKEN
    if sort == "faint":
        # One faint noise alone counts for nothing, however often it is made.
        return WOKEN if len(state) == 3 and state[1] != noise else ("asleep", noise, 0)
    return state


def heard_loud_dozing(sleeper, state):
    """The state behind a loud noise while the sleeper is dozing."""
    if sleeper.loud == "wake":
        return WOKEN
    return dozing_anew(sleeper) if sleeper.loud == "again" else state


def is_state(sleeper, value):
    """Whether any value is a state in which this sleeper can be and is not woken."""
    if not isinstance(value, tuple) or len(value) == 0:
        return False
    if value in (UP, ASLEEP):
        return True
    if value[0] == "dozing":
        return len(value) == 2 and is_within(value[1], 1, sleeper.doze)
    if value[0] == "stirring":
        return len(value) == 2 and is_within(value[1], 1, sleeper.stir)
    return value[0] == "asleep" and len(value) == 3 and is_kept(sleeper, value[1], value[2])


def is_within(value, least, most):
    """Whether any value is an integer from the least to the most."""
    return is_whole(value) and least <= value <= most


def is_kept(sleeper, noise, ago):
    """Whether any values are a faint noise and how many ticks ago it can have been heard."""
    return sort_of(sleeper, noise) == "faint" and is_within(ago, 0, sleeper.near)
