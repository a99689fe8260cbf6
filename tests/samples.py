"""Houses, sleepers and any values that several test files use."""

import random

from hushsteps.errors import InvalidText
from hushsteps.houses import House
from hushsteps.sleepers import Sleeper, heard, hummed, ticked
from hushsteps.walks import Walk, play

RULES = ("again", "nothing", "wake")
SORTS = ("faint", "loud", "soft", "sudden")
FIRSTS = ("asleep", "dozing", "up")


def home():
    """The house of the document."""
    return House(3, [(0, 1, "gate"), (1, 2, None)], [(2, "plnk")], [2])


def light():
    """The sleeper of the document."""
    return Sleeper([("gate", "soft"), ("plnk", "sudden")], 2, 3, 1, "again")


def deep(value):
    """A value nested eight deep."""
    for _ in range(8):
        value = [value]
    return value


def objects():
    """Objects of the package."""
    walk = Walk(1, 1, "asleep", ["tick"])
    return [home(), light(), walk, play(home(), light(), walk), InvalidText(0)]


def any_values():
    """Any values of every kind, hardly one of which has a meaning."""
    return [
        None, True, False, 0, 1, -1, 7, "", "a", "tick", "asleep", "step 0 0", "()", [], (), [0], (0,), [()], ((),),
        ["tick"], ("tick",), [None, True], deep("tick"), deep(()), [[0], (1, "a")],
    ] + objects() + [[thing] for thing in objects()] + [(thing,) for thing in objects()]


def small_sleeper(chance, names):
    """Some sleeper who hears most of the names."""
    sorts = [(name, chance.choice(SORTS + ("faint",))) for name in names if chance.random() < 0.9]
    return Sleeper(sorts, chance.randint(1, 3), chance.randint(1, 3), chance.randint(1, 2), chance.choice(RULES))


def small_house(chance, names, rooms, doors):
    """Some house with so many rooms and doors."""
    floors = [(room, chance.choice(names)) for room in range(rooms) if chance.random() < 0.4]
    if rooms == 1:
        return House(1, [], floors)
    pairs = [tuple(chance.sample(range(rooms), 2)) for _ in range(doors)]
    return House(rooms, [(one, other, chance.choice(names + [None])) for one, other in pairs], floors)


def small_nights(seed, many, rooms=3, doors=4):
    """So many triples of a small house, a sleeper and how the sleeper is at first; always the same for a seed."""
    chance = random.Random(seed)
    names = ["a", "b", "c"]
    for _ in range(many):
        house = small_house(chance, names, chance.randint(1, rooms), chance.randint(0, doors))
        yield house, small_sleeper(chance, names), chance.choice(FIRSTS)


def helped_nights(seed, many):
    """The same for houses of four rooms in which helpers who stay behind often matter."""
    chance = random.Random(seed)
    for _ in range(many):
        doors = [(0, 1, chance.choice(["gate", "bang"]))]
        doors.extend([(chance.randrange(room), room, chance.choice([None, None, "crk"])) for room in (2, 3)])
        for _ in range(chance.randint(0, 2)):
            one, other = chance.sample(range(4), 2)
            doors.append((one, other, chance.choice(["gate", "bang", "crk", "drip", None])))
        floors = [(room, chance.choice(["crk", "crk", "drip", "bang"])) for room in (1, 2, 3) if chance.random() < 0.35]
        sorts = [("bang", "loud"), ("crk", "sudden"), ("drip", "faint"), ("gate", "soft")]
        sleeper = Sleeper(sorts, chance.randint(1, 2), chance.randint(1, 2), 1, "again")
        yield House(4, doors, floors), sleeper, chance.choice(["asleep", "dozing"])


def small_errands(seed, many, rooms=3, doors=4):
    """So many tuples of a small house with cradles, a sleeper, how slow a nurse is, her start and her goal."""
    chance = random.Random(seed)
    names = ["a", "b", "c"]
    for _ in range(many):
        house = small_house(chance, names, chance.randint(1, rooms), chance.randint(0, doors))
        cradles = [room for room in range(house.rooms) if chance.random() < 0.4]
        house = House(house.rooms, house.doors, house.floors, cradles)
        start = (chance.randrange(house.rooms), chance.choice(FIRSTS))
        goal = (chance.randrange(house.rooms), chance.choice(FIRSTS))
        yield house, small_sleeper(chance, names), chance.randrange(3), start, goal


def hard_errands(seed, many):
    """The same for houses in which the nurse often has a long way, by noises that must come in the right order."""
    chance = random.Random(seed)
    sorts = [("bang", "loud"), ("crk", "sudden"), ("drip", "faint"), ("gate", "soft"), ("tap", "faint")]
    for _ in range(many):
        doors = [(0, 1, chance.choice(["gate", "tap", None])), (1, 2, chance.choice(["gate", "drip", "tap"]))]
        doors.append((2, 3, chance.choice(["crk", "bang", "gate", None])))
        doors.append((chance.randrange(3), 3, chance.choice(["drip", "crk", "bang"])))
        floors = [(room, chance.choice(["crk", "drip", "tap"])) for room in (1, 2, 3) if chance.random() < 0.4]
        house = House(4, doors, floors, [room for room in (1, 2, 3) if chance.random() < 0.5])
        sleeper = Sleeper(sorts, chance.randint(1, 5), chance.randint(1, 4), chance.randint(1, 2), chance.choice(RULES))
        start = (0, chance.choice(FIRSTS))
        yield house, sleeper, chance.randrange(3), start, (chance.choice([2, 3, 3]), chance.choice(FIRSTS))


def states_of(sleeper):
    """All states in which a sleeper can be and is not woken."""
    states = [("up",), ("asleep",)] + [("dozing", t) for t in range(1, sleeper.doze + 1)]
    states += [("stirring", t) for t in range(1, sleeper.stir + 1)]
    faint = [name for name, sort in sleeper.sorts if sort == "faint"]
    return states + [("asleep", name, ago) for name in faint for ago in range(sleeper.near + 1)]


def deeds_of(house, sleeper, slow, place):
    """What a nurse can do at a place, reckoned from the words of the document: a dict of lists of outcomes."""
    room, state, free = place
    deeds = {"wait": [(room, ticked(sleeper, state), True)]}
    if room in house.cradles:
        deeds["hum up"] = [(room, hummed(sleeper, state, "up"), free)]
        deeds["hum doze"] = [(room, hummed(sleeper, state, "doze"), free)]
    for number, (one, other, noise) in enumerate(house.doors):
        if free and room in (one, other):
            behind = one + other - room
            deeds[f"door {number}"] = []
            for ticks in range(slow + 1):
                now = state if noise is None else heard(sleeper, state, noise)
                for _ in range(ticks):
                    now = ticked(sleeper, now)
                for _, floor in [pair for pair in house.floors if pair[0] == behind]:
                    now = heard(sleeper, now, floor)
                deeds[f"door {number}"].append((behind, now, False))
    return deeds


def woken(outcomes):
    """Whether the sleeper is woken in one of the outcomes."""
    return any(state == ("woken",) for room, state, free in outcomes)
