"""Houses: rooms, doors and floors with their noises, and cradles."""

from hushsteps.errors import InvalidHouse, InvalidText
from hushsteps.forms import are_unlike, is_name, is_numeral, is_positive, is_row, is_tuple_of, is_whole

# Which lines can stand behind a line, by their first words; "" is ahead of the first line.
FOLLOWING = {
    "": ("rooms",),
    "rooms": ("door", "floor", "cradles"),
    "door": ("door", "floor", "cradles"),
    "floor": ("floor", "cradles"),
    "cradles": (),
}


def is_room(rooms, value):
    """Whether any value is a room of a house with so many rooms."""
    return is_whole(value) and 0 <= value < rooms


def is_door(rooms, value):
    """Whether any value is a triple of two unlike rooms and a name or None."""
    if not is_tuple_of(value, 3):
        return False
    one, other, noise = value
    if not is_room(rooms, one) or not is_room(rooms, other) or one == other:
        return False
    return noise is None or is_name(noise)


def is_floor(rooms, value):
    """Whether any value is a pair of a room and a name."""
    return is_tuple_of(value, 2) and is_room(rooms, value[0]) and is_name(value[1])


def are_doors(rooms, value):
    """Whether any value is a sequence of doors."""
    return is_row(value) and all([is_door(rooms, door) for door in value])


def are_floors(rooms, value):
    """Whether any value is a sequence of floors, no room twice."""
    if not is_row(value) or not all([is_floor(rooms, floor) for floor in value]):
        return False
    return are_unlike([floor[0] for floor in value])


def are_cradles(rooms, value):
    """Whether any value is a sequence of unlike rooms."""
    return is_row(value) and all([is_room(rooms, room) for room in value]) and are_unlike(value)


def door_line(door):
    """The line of a door in the text of a house."""
    one, other, noise = door
    word = "-" if noise is None else noise
    return f"door {one} {other} {word}"


def read_door(words):
    """The door of a line, given by its words."""
    noise = None if words[3] == "-" else words[3]
    return (int(words[1]), int(words[2]), noise)


def read_floor(words):
    """The floor of a line, given by its words."""
    return (int(words[1]), words[2])


def are_numerals(words):
    """Whether all words are numbers."""
    return all([is_numeral(word) for word in words])


def has_form(words):
    """Whether words, the first of which begins lines of some kind, are those of such a line."""
    kind = words[0]
    if kind == "rooms":
        return len(words) == 2 and is_numeral(words[1])
    if kind == "door":
        return len(words) == 4 and are_numerals(words[1:3]) and (words[3] == "-" or is_name(words[3]))
    if kind == "floor":
        return len(words) == 3 and is_numeral(words[1]) and is_name(words[2])
    return are_numerals(words[1:])


def wrong_line(lines):
    """The number of the first line (each a list of words) that can't stand there or is lacking, or None."""
    ahead = ""
    for at, words in enumerate(lines):
        if words[0] not in FOLLOWING[ahead] or not has_form(words):
            return at
        ahead = words[0]
    return None if ahead == "cradles" else len(lines)


class House:
    """A house: its rooms (0 is the street), doors, floors and cradles."""

    def __init__(self, rooms, doors, floors=(), cradles=()):
        if not is_positive(rooms):
            raise InvalidHouse("rooms")
        if not are_doors(rooms, doors):
            raise InvalidHouse("doors")
        if not are_floors(rooms, floors):
            raise InvalidHouse("floors")
        if not are_cradles(rooms, cradles):
            raise InvalidHouse("cradles")
        self.rooms = rooms
        self.doors = tuple(doors)
        self.floors = tuple(sorted(floors))
        self.cradles = tuple(sorted(cradles))

    @classmethod
    def read(cls, text):
        """The house with a text, in which floors and cradles may stand in any order."""
        lines = [line.split(" ") for line in text.split("\n")]
        at = wrong_line(lines)
        if at is not None:
            raise InvalidText(at)
        doors = [read_door(words) for words in lines if words[0] == "door"]
        floors = [read_floor(words) for words in lines if words[0] == "floor"]
        cradles = [int(word) for word in lines[-1][1:]]
        return cls(int(lines[0][1]), doors, floors, cradles)

    @property
    def noises(self):
        """The ascending tuple of all names of noises, each once."""
        of_doors = [noise for one, other, noise in self.doors if noise is not None]
        of_floors = [noise for room, noise in self.floors]
        return tuple(sorted(set(of_doors + of_floors)))

    def mended(self, names):
        """The house in which the noises of these names are not made any more."""
        doors = [(one, other, None if noise in names else noise) for one, other, noise in self.doors]
        floors = [(room, noise) for room, noise in self.floors if noise not in names]
        return House(self.rooms, doors, floors, self.cradles)

    def __len__(self):
        return len(self.doors)

    def __eq__(self, other):
        return (isinstance(other, House) and self.rooms == other.rooms and self.doors == other.doors
                and self.floors == other.floors and self.cradles == other.cradles)

    def __str__(self):
        doors = [door_line(door) for door in self.doors]
        floors = [f"floor {room} {noise}" for room, noise in self.floors]
        cradles = " ".join(["cradles"] + [str(room) for room in self.cradles])
        return "\n".join([f"rooms {self.rooms}"] + doors + floors + [cradles])
