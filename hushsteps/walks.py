"""Walks: people who go through a house, and what becomes of the sleeper."""

from hushsteps.doors import beyond, noises_of_step
from hushsteps.errors import InvalidEvent, InvalidWalk, Refused
from hushsteps.forms import is_number, is_numeral, is_row
from hushsteps.sleepers import FIRSTS, HUMMED, WOKEN, first_state, heard_all, hummed, ticked


def is_person(people, word):
    """Whether a word is the number of one of so many people."""
    return is_numeral(word) and int(word) < people


def is_event(people, value):
    """Whether any value is an event that can stand in a walk of so many people."""
    if not isinstance(value, str):
        return False
    words = value.split(" ")
    if words[0] == "step":
        return len(words) == 3 and is_person(people, words[1]) and is_numeral(words[2])
    if words[0] == "hum":
        return len(words) == 3 and is_person(people, words[1]) and words[2] in HUMMED
    return value == "tick"


class Walk:
    """A walk: how many guests and nurses there are, how the sleeper is at first, and what happens."""

    def __init__(self, guests, nurses, first, events=()):
        if not is_number(guests):
            raise InvalidWalk("guests")
        if not is_number(nurses):
            raise InvalidWalk("nurses")
        if first not in FIRSTS:
            raise InvalidWalk("first")
        if not is_row(events):
            raise InvalidWalk("events")
        for at, event in enumerate(events):
            if not is_event(guests + nurses, event):
                raise InvalidEvent(at)
        self.guests = guests
        self.nurses = nurses
        self.first = first
        self.events = tuple(events)

    def upto(self, many):
        """The walk with so many of its events, from the first on."""
        return Walk(self.guests, self.nurses, self.first, self.events[:many])

    def further(self, events):
        """The walk with further events behind its own."""
        if not is_row(events):
            raise InvalidWalk("events")
        return Walk(self.guests, self.nurses, self.first, self.events + tuple(events))

    def __len__(self):
        return len(self.events)

    def __eq__(self, other):
        return (isinstance(other, Walk) and self.guests == other.guests and self.nurses == other.nurses
                and self.first == other.first and self.events == other.events)


class Played:
    """What a walk led to."""

    def __init__(self, state, places, ticks, made, woke):
        self.state = state
        self.places = places
        self.ticks = ticks
        self.made = made
        self.woke = woke


class Night:
    """A walk while it is played: how all is at the moment, and what was heard so far."""

    def __init__(self, house, sleeper, walk):
        self.own_house = house
        self.own_sleeper = sleeper
        self.guests = walk.guests
        self.state = first_state(sleeper, walk.first)
        self.places = [0] * (walk.guests + walk.nurses)
        self.moved = {}
        self.ticks = 0
        self.made = []

    def allows(self, words):
        """Whether an event, given by its words, is possible now."""
        if words[0] == "tick":
            return True
        person = int(words[1])
        if words[0] == "hum":
            return person >= self.guests and self.places[person] in self.own_house.cradles
        return person not in self.moved and beyond(self.own_house, int(words[2]), self.places[person]) is not None

    def follow(self, words):
        """Does an event that is possible, given by its words."""
        if words[0] == "tick":
            self.tick()
        elif words[0] == "hum":
            self.state = hummed(self.own_sleeper, self.state, words[2])
        else:
            self.step(int(words[1]), int(words[2]))

    def tick(self):
        """Lets a tick go by, behind which everybody can make a step again."""
        self.state = ticked(self.own_sleeper, self.state)
        self.ticks += 1
        self.moved = {}

    def step(self, person, number):
        """Lets a person go through a door."""
        room = beyond(self.own_house, number, self.places[person])
        noises = noises_of_step(self.own_house, number, room)
        self.state = heard_all(self.own_sleeper, self.state, noises)
        self.made.extend([(self.ticks, noise) for noise in noises])
        self.places[person] = room
        self.moved[person] = True


def play(house, sleeper, walk):
    """What a walk leads to in this house with this sleeper."""
    night = Night(house, sleeper, walk)
    woke = None
    for at, event in enumerate(walk.events):
        words = event.split(" ")
        if not night.allows(words):
            raise Refused(at)
        night.follow(words)
        if woke is None and night.state == WOKEN:
            woke = at
    return Played(night.state, tuple(night.places), night.ticks, tuple(night.made), woke)
