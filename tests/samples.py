"""Houses, sleepers and any values that several test files use."""

import random

from hushsteps.errors import InvalidText
from hushsteps.houses import House
from hushsteps.sleepers import Sleeper
from hushsteps.walks import Walk, play

RULES = ("again", "nothing", "wake")
SORTS = ("faint", "loud", "soft", "sudden")
FIRSTS = ("asleep", "dozing", "up")


def home():
    """The house of the document."""
    return House(3, [(0, 1, "gate"), (1, 2, None)], [(2, "plnk")], [2])


def light():
    """The sleeper of the document."""
    return Sleeper([("gate", "soft"), ("plnk", "sudden")], 2, 3, 1, "again")


def deep(value):
    """A value nested eight deep."""
    for _ in range(8):
        value = [value]
    return value


def objects():
    """Objects of the package."""
    walk = Walk(1, 1, "asleep", ["tick"])
    return [home(), light(), walk, play(home(), light(), walk), InvalidText(0)]


def any_values():
    """Any values of every kind, hardly one of which has a meaning."""
    return [
        None, True, False, 0, 1, -1, 7, "", "a", "tick", "asleep", "step 0 0", "()", [], (), [0], (0,), [()], ((),),
        ["tick"], ("tick",), [None, True], deep("tick"), deep(()), [[0], (1, "a")],
    ] + objects() + [[thing] for thing in objects()] + [(thing,) for thing in objects()]


def small_sleeper(chance, names):
    """Some sleeper who hears most of the names."""
    sorts = [(name, chance.choice(SORTS + ("faint",))) for name in names if chance.random() < 0.9]
    return Sleeper(sorts, chance.randint(1, 3), chance.randint(1, 3), chance.randint(1, 2), chance.choice(RULES))


def small_house(chance, names, rooms, doors):
    """Some house with so many rooms and doors."""
    floors = [(room, chance.choice(names)) for room in range(rooms) if chance.random() < 0.4]
    if rooms == 1:
        return House(1, [], floors)
    pairs = [tuple(chance.sample(range(rooms), 2)) for _ in range(doors)]
    return House(rooms, [(one, other, chance.choice(names + [None])) for one, other in pairs], floors)


def small_nights(seed, many, rooms=3, doors=4):
    """So many triples of a small house, a sleeper and how the sleeper is at first; always the same for a seed."""
    chance = random.Random(seed)
    names = ["a", "b", "c"]
    for _ in range(many):
        house = small_house(chance, names, chance.randint(1, rooms), chance.randint(0, doors))
        yield house, small_sleeper(chance, names), chance.choice(FIRSTS)


def helped_nights(seed, many):
    """The same for houses of four rooms in which helpers who stay behind often matter."""
    chance = random.Random(seed)
    for _ in range(many):
        doors = [(0, 1, chance.choice(["gate", "bang"]))]
        doors.extend([(chance.randrange(room), room, chance.choice([None, None, "crk"])) for room in (2, 3)])
        for _ in range(chance.randint(0, 2)):
            one, other = chance.sample(range(4), 2)
            doors.append((one, other, chance.choice(["gate", "bang", "crk", "drip", None])))
        floors = [(room, chance.choice(["crk", "crk", "drip", "bang"])) for room in (1, 2, 3) if chance.random() < 0.35]
        sorts = [("bang", "loud"), ("crk", "sudden"), ("drip", "faint"), ("gate", "soft")]
        sleeper = Sleeper(sorts, chance.randint(1, 2), chance.randint(1, 2), 1, "again")
        yield House(4, doors, floors), sleeper, chance.choice(["asleep", "dozing"])
