"""Tests of hushsteps.houses: point [5] of the document, and [1], [2], [3] as far as they speak of houses."""

import itertools
import unittest

from hushsteps.errors import HushError, InvalidHouse, InvalidSleeper, InvalidText, Refused
from hushsteps.houses import House
from hushsteps.sleepers import Sleeper

HOME = "rooms 3\ndoor 0 1 gate\ndoor 1 2 -\nfloor 2 plnk\ncradles 2"


def home():
    return House(3, [(0, 1, "gate"), (1, 2, None)], [(2, "plnk")], [2])


def big():
    return House(
        5, ((0, 1, "b"), (1, 0, "a"), (1, 4, None), (4, 3, "zzzz"), (2, 3, "a")),
        ((4, "q"), (0, "zzzz"), (2, "b")), (3, 0, 4),
    )


def sleeper():
    return Sleeper([("gate", "soft")], 2, 3, 1, "again")


def deep(value):
    """A value nested eight deep."""
    for _ in range(8):
        value = [value]
    return value


def others():
    """Any values that are no sequences, integers or names."""
    return [None, True, False, home(), sleeper(), InvalidText(0)]


def nothings():
    """Any values that are no integers."""
    return others() + ["", "3", "a", [], (), [3], (3,), deep(3), [home()]]


def no_rows():
    """Any values that are no sequences."""
    return others() + [0, 1, -1, 3, "", "a", "gate", "()"]


def no_names():
    """Any values that are no names."""
    return others()[1:] + [
        0, 1, "", "abcde", "A", "Gate", "ga te", "g1", "1", "-", "a-", " a", "a ", "a\n", "\n", "\u00e9", "\u00df",
        "a_",
        "`", "{", [], (), ["a"], ("a",), ["a", "b"], deep("a"),
    ]


def no_rooms(rooms):
    """Any values that are no rooms of a house with so many rooms."""
    return nothings() + [-1, rooms, rooms + 1, -rooms]


class HouseCase(unittest.TestCase):
    def assert_invalid(self, word, *arguments, **named):
        with self.assertRaises(InvalidHouse) as caught:
            House(*arguments, **named)
        self.assertEqual(caught.exception.word, word, (arguments, named))
        self.assertIs(type(caught.exception), InvalidHouse)

    def assert_no_text(self, at, text):
        with self.assertRaises(InvalidText) as caught:
            House.read(text)
        self.assertEqual(caught.exception.at, at, text)
        self.assertIs(type(caught.exception.at), int)

    def assert_text_of_none(self, word, text):
        with self.assertRaises(InvalidHouse) as caught:
            House.read(text)
        self.assertEqual(caught.exception.word, word, text)

    def assert_like(self, house, rooms, doors, floors, cradles):
        self.assertEqual((house.rooms, house.doors, house.floors, house.cradles), (rooms, doors, floors, cradles))
        for row in (house.doors, house.floors, house.cradles):
            self.assertIs(type(row), tuple)
        for thing in house.doors + house.floors:
            self.assertIs(type(thing), tuple)


class Attributes(HouseCase):
    def test_as_in_the_document(self):
        self.assert_like(home(), 3, ((0, 1, "gate"), (1, 2, None)), ((2, "plnk"),), (2,))

    def test_lists_and_tuples(self):
        rows = ([(0, 1, "a"), (0, 1, None)], [(1, "b"), (0, "a")], [1, 0])
        for kinds in itertools.product((list, tuple), repeat=3):
            made = House(2, *[kind(row) for kind, row in zip(kinds, rows)])
            self.assert_like(made, 2, ((0, 1, "a"), (0, 1, None)), ((0, "a"), (1, "b")), (0, 1))

    def test_floors_and_cradles_are_left_out(self):
        self.assert_like(House(1, []), 1, (), (), ())
        self.assert_like(House(2, [(0, 1, None)], [(1, "a")]), 2, ((0, 1, None),), ((1, "a"),), ())
        self.assert_like(House(2, (), cradles=[1]), 2, (), (), (1,))

    def test_doors_keep_their_order(self):
        doors = ((2, 1, "z"), (0, 1, None), (1, 2, "a"), (0, 1, None), (1, 0, "z"))
        self.assertEqual(House(3, doors).doors, doors)
        self.assertEqual(House(3, doors[::-1]).doors, doors[::-1])

    def test_floors_and_cradles_in_every_order(self):
        floors = ((0, "z"), (1, "b"), (3, "a"))
        for row in itertools.permutations(floors):
            self.assertEqual(House(4, [], row).floors, floors)
            self.assertEqual(House(4, [], list(row)).floors, floors)
        for row in itertools.permutations((0, 2, 3)):
            self.assertEqual(House(4, [], [], row).cradles, (0, 2, 3))

    def test_by_parameter_names(self):
        named = House(cradles=[2], floors=[(2, "plnk")], doors=[(0, 1, "gate"), (1, 2, None)], rooms=3)
        self.assertEqual(named, home())

    def test_lists_that_are_changed_afterwards(self):
        doors, floors, cradles = [(0, 1, "gate"), (1, 2, None)], [(2, "plnk")], [2]
        house = House(3, doors, floors, cradles)
        doors.append((0, 2, "a"))
        floors[0] = (1, "b")
        cradles.clear()
        self.assert_like(house, 3, ((0, 1, "gate"), (1, 2, None)), ((2, "plnk"),), (2,))
        self.assertEqual(str(house), HOME)
        self.assertEqual((len(house), house.noises), (2, ("gate", "plnk")))

    def test_arguments_are_not_changed(self):
        doors, floors, cradles = [(1, 0, "b"), (0, 1, "a")], [(1, "b"), (0, "a")], [1, 0]
        House(2, doors, floors, cradles)
        self.assertEqual(doors, [(1, 0, "b"), (0, 1, "a")])
        self.assertEqual(floors, [(1, "b"), (0, "a")])
        self.assertEqual(cradles, [1, 0])

    def test_beyond_the_limits(self):
        doors = [(k, k + 1, None) for k in range(119)]
        house = House(120, doors, [(k, "a") for k in range(120)], list(range(120)))
        self.assertEqual((house.rooms, len(house), len(house.floors), len(house.cradles)), (120, 119, 120, 120))

    def test_names_at_the_edges(self):
        for name in ("a", "z", "az", "zza", "aaaa", "zzzz", "loud", "none"):
            self.assertEqual(House(2, [(0, 1, name)], [(0, name)]).noises, (name,))

    def test_not_iterable(self):
        for house in (home(), House(1, [])):
            for use in (iter, list, tuple, set, sorted, enumerate, lambda h: [*h], lambda h: 0 in h):
                with self.assertRaises(TypeError):
                    use(house)
            with self.assertRaises(TypeError):
                first, second = house
            with self.assertRaises(TypeError):
                house[0]


class WrongArguments(HouseCase):
    def test_rooms(self):
        for value in nothings() + [0, -1, -5]:
            self.assert_invalid("rooms", value, [], [], [])
            self.assert_invalid("rooms", rooms=value, doors=[])
        House(1, [])

    def test_true_is_no_integer(self):
        self.assert_invalid("rooms", True, [])
        self.assert_invalid("doors", 2, [(False, 1, None)])
        self.assert_invalid("doors", 2, [(0, True, None)])
        self.assert_invalid("floors", 2, [], [(True, "a")])
        self.assert_invalid("floors", 2, [], [(False, "a")])
        self.assert_invalid("cradles", 2, [], [], [True])
        self.assert_invalid("cradles", 2, [], [], [False])

    def test_doors_is_no_sequence(self):
        for value in no_rows():
            self.assert_invalid("doors", 3, value, [], [])

    def test_a_door_is_no_triple(self):
        wrong = no_rows() + [
            (), [], (0,), (0, 1), (0, 1, "a", "a"), [0, 1, "a"], [0, 1, None], (0, 1, "a", None), ((0, 1, "a"),),
            [(0, 1, "a")], deep(0), (0, "a"),
        ]
        for value in wrong:
            for kind in (list, tuple):
                self.assert_invalid("doors", 3, kind([value]), [], [])
                self.assert_invalid("doors", 3, kind([(0, 1, "a"), value]), [], [])
                self.assert_invalid("doors", 3, kind([value, (0, 1, "a")]), [], [])

    def test_doors_with_rooms_that_there_are_not(self):
        for value in no_rooms(3):
            self.assert_invalid("doors", 3, [(value, 1, "a")])
            self.assert_invalid("doors", 3, [(1, value, None)])
        House(3, [(0, 2, "a"), (2, 0, "a")])

    def test_a_door_from_a_room_to_itself(self):
        for room in range(3):
            self.assert_invalid("doors", 3, [(room, room, "a")])
            self.assert_invalid("doors", 3, [(0, 1, None), (room, room, None)])

    def test_doors_with_noises_that_are_no_names(self):
        for value in no_names():
            self.assert_invalid("doors", 3, [(0, 1, value)])
            self.assert_invalid("doors", 3, [(0, 1, None), (0, 1, value), (0, 1, "a")])

    def test_floors_is_no_sequence(self):
        for value in no_rows():
            self.assert_invalid("floors", 3, [], value, [])

    def test_a_floor_is_no_pair(self):
        wrong = no_rows() + [
            (), [], (0,), (0, "a", "a"), [0, "a"], ("a", 0), (0, 1), ((0, "a"),), [(0, "a")], deep("a"), "0a",
            ("0", "a"),
        ]
        for value in wrong:
            for kind in (list, tuple):
                self.assert_invalid("floors", 3, [], kind([value]), [])
                self.assert_invalid("floors", 3, [], kind([(1, "a"), value]), [])

    def test_floors_with_rooms_that_there_are_not(self):
        for value in no_rooms(3):
            self.assert_invalid("floors", 3, [], [(value, "a")])
        House(3, [], [(0, "a"), (2, "a")])

    def test_floors_with_noises_that_are_no_names(self):
        for value in no_names() + [None]:
            self.assert_invalid("floors", 3, [], [(1, value)])

    def test_a_room_with_two_floors(self):
        self.assert_invalid("floors", 3, [], [(1, "a"), (1, "b")])
        self.assert_invalid("floors", 3, [], [(1, "a"), (1, "a")])
        self.assert_invalid("floors", 3, [], ((0, "a"), (1, "a"), (0, "b")))
        House(3, [], [(0, "a"), (1, "a"), (2, "a")])

    def test_cradles_is_no_sequence(self):
        for value in no_rows():
            self.assert_invalid("cradles", 3, [], [], value)

    def test_cradles_with_rooms_that_there_are_not(self):
        for value in no_rooms(3):
            self.assert_invalid("cradles", 3, [], [], [value])
            self.assert_invalid("cradles", 3, [], [], (0, value))
        House(3, [], [], [0, 2])

    def test_a_cradle_twice(self):
        self.assert_invalid("cradles", 3, [], [], [1, 1])
        self.assert_invalid("cradles", 3, [], [], (0, 1, 0))

    def test_the_first_of_several_wrong_arguments(self):
        wrong = {"rooms": 0, "doors": [(0, 0, None)], "floors": [(1, "A")], "cradles": [9]}
        right = {"rooms": 3, "doors": [(0, 1, None)], "floors": [(1, "a")], "cradles": [2]}
        order = ("rooms", "doors", "floors", "cradles")
        for many in range(1, 5):
            for words in itertools.combinations(order, many):
                named = {word: (wrong if word in words else right)[word] for word in order}
                self.assert_invalid(words[0], **named)
                self.assert_invalid(words[0], *[named[word] for word in order])

    def test_nothing_else_than_invalid_house_for_any_values(self):
        values = nothings() + no_rows() + [[0], [[1]], [(0, 1, None)], [(1, "a")], [("a", [])], [([], "a")]]
        for value, other in itertools.product(values, repeat=2):
            for arguments in ((3, value, other), (3, [], value, other), (value, other), (2, value, (), other)):
                try:
                    House(*arguments)
                except InvalidHouse as error:
                    self.assertIn(error.word, ("rooms", "doors", "floors", "cradles"))


class Noises(HouseCase):
    def test_each_once_and_ascending(self):
        self.assertEqual(home().noises, ("gate", "plnk"))
        self.assertEqual(big().noises, ("a", "b", "q", "zzzz"))

    def test_none_of_them(self):
        self.assertEqual(House(2, [(0, 1, None)], [], [1]).noises, ())
        self.assertEqual(House(1, []).noises, ())

    def test_of_doors_alone_and_of_floors_alone(self):
        self.assertEqual(House(2, [(0, 1, "b"), (0, 1, "ab"), (0, 1, None)]).noises, ("ab", "b"))
        self.assertEqual(House(2, [], [(0, "b"), (1, "ab")]).noises, ("ab", "b"))

    def test_kinds(self):
        self.assertIs(type(home().noises), tuple)
        self.assertIsInstance(House.noises, property)


class Lengths(HouseCase):
    def test_number_of_doors(self):
        self.assertEqual(len(House(4, [], [(0, "a")], [1])), 0)
        self.assertEqual(len(home()), 2)
        self.assertEqual(len(big()), 5)
        self.assertEqual(len(House(2, [(0, 1, None)] * 7)), 7)


class Mending(HouseCase):
    def test_a_door(self):
        self.assert_like(home().mended(["gate"]), 3, ((0, 1, None), (1, 2, None)), ((2, "plnk"),), (2,))

    def test_a_floor(self):
        self.assert_like(home().mended(("plnk",)), 3, ((0, 1, "gate"), (1, 2, None)), (), (2,))

    def test_all(self):
        mended = home().mended(["plnk", "gate"])
        self.assert_like(mended, 3, ((0, 1, None), (1, 2, None)), (), (2,))
        self.assertEqual(mended.noises, ())

    def test_the_same_noise_in_doors_and_floors(self):
        self.assertEqual(
            str(big().mended(["b", "zzzz"])),
            "rooms 5\ndoor 0 1 -\ndoor 1 0 a\ndoor 1 4 -\ndoor 4 3 -\ndoor 2 3 a\nfloor 4 q\ncradles 0 3 4",
        )

    def test_names_that_are_not_there(self):
        for names in ([], (), ["drip"], ("g", "gat", "ate", "p"), ["none"]):
            self.assertEqual(home().mended(names), home())
            self.assertIsInstance(home().mended(names), House)

    def test_names_that_come_twice(self):
        self.assertEqual(home().mended(["gate", "gate"]), home().mended(["gate"]))
        self.assertEqual(home().mended(("gate", "drip", "gate", "plnk", "drip")), home().mended(["plnk", "gate"]))

    def test_mended_twice(self):
        self.assertEqual(big().mended(["a"]).mended(["b"]), big().mended(["a", "b"]))
        self.assertEqual(big().mended(["a"]).mended(["a"]), big().mended(["a"]))

    def test_the_elder_house_and_the_names_stay(self):
        house, names = home(), ["plnk", "gate"]
        younger = house.mended(names)
        self.assertEqual(str(house), HOME)
        self.assertEqual(house.noises, ("gate", "plnk"))
        self.assertEqual(names, ["plnk", "gate"])
        names.clear()
        self.assertEqual(younger.noises, ())

    def test_by_parameter_name(self):
        self.assertEqual(home().mended(names=["gate"]), home().mended(["gate"]))


class Texts(HouseCase):
    def test_as_in_the_document(self):
        self.assertEqual(str(home()), HOME)

    def test_texts(self):
        self.assertEqual(str(House(1, [])), "rooms 1\ncradles")
        self.assertEqual(str(House(12, [(11, 0, None)], [], [10, 9])), "rooms 12\ndoor 11 0 -\ncradles 9 10")
        self.assertEqual(
            str(big()),
            "rooms 5\ndoor 0 1 b\ndoor 1 0 a\ndoor 1 4 -\ndoor 4 3 zzzz\ndoor 2 3 a\n"
            "floor 0 zzzz\nfloor 2 b\nfloor 4 q\ncradles 0 3 4",
        )

    def test_reading_what_was_written(self):
        for house in (home(), big(), House(1, []), House(99, [(98, 97, None)], [(98, "a")], [98])):
            again = House.read(str(house))
            self.assertEqual(again, house)
            self.assert_like(again, house.rooms, house.doors, house.floors, house.cradles)
            self.assertEqual(str(again), str(house))

    def test_floors_and_cradles_in_any_order(self):
        floors = ("floor 0 zzzz", "floor 2 b", "floor 4 q")
        for rows in itertools.permutations(floors):
            for cradles in itertools.permutations("034"):
                text = "\n".join(str(big()).split("\n")[:6] + list(rows) + ["cradles " + " ".join(cradles)])
                self.assertEqual(House.read(text), big())

    def test_the_order_of_doors_stays(self):
        text = "rooms 3\ndoor 1 2 -\ndoor 0 1 gate\nfloor 2 plnk\ncradles 2"
        self.assertEqual(House.read(text).doors, ((1, 2, None), (0, 1, "gate")))
        self.assertNotEqual(House.read(text), home())

    def test_by_parameter_name(self):
        self.assertEqual(House.read(text=HOME), home())
        self.assertEqual(home().read("rooms 1\ncradles"), House(1, []))

    def test_the_same_again(self):
        house = home()
        self.assertEqual([str(house), house.noises, len(house)], [str(house), house.noises, len(house)])


class NoTexts(HouseCase):
    def test_empty_text_and_empty_lines(self):
        self.assert_no_text(0, "")
        self.assert_no_text(0, "\n")
        self.assert_no_text(0, "\n" + HOME)
        self.assert_no_text(5, HOME + "\n")
        self.assert_no_text(5, HOME + "\n\n")
        self.assert_no_text(1, HOME.replace("\n", "\n\n"))

    def test_no_cradles_line(self):
        lines = HOME.split("\n")
        for many in range(1, 5):
            self.assert_no_text(many, "\n".join(lines[:many]))
            self.assert_no_text(many, "\n".join(lines[:many]) + "\n")
        self.assert_no_text(1, "rooms 1")

    def test_a_line_left_out(self):
        lines = HOME.split("\n")
        self.assert_no_text(0, "\n".join(lines[1:]))
        for at in (1, 2, 3):
            self.assertEqual(len(str(House.read("\n".join(lines[:at] + lines[at + 1:]))).split("\n")), 4)

    def test_a_line_behind_cradles(self):
        for line in ("rooms 3", "door 0 1 -", "floor 1 a", "cradles", "cradles 2", "", "x"):
            self.assert_no_text(5, HOME + "\n" + line)
            self.assert_no_text(2, "rooms 3\ncradles\n" + line + "\n" + line)

    def test_a_line_ahead_of_rooms(self):
        for line in ("door 0 1 -", "floor 1 a", "cradles", "", "x", "rooms", "room 3", "ROOMS 3"):
            self.assert_no_text(0, line + "\n" + HOME)
        self.assert_no_text(1, "rooms 3\n" + HOME)

    def test_lines_exchanged(self):
        lines = HOME.split("\n")
        wrong = {(0, 1): 0, (0, 2): 0, (0, 3): 0, (0, 4): 0, (1, 3): 2, (1, 4): 2, (2, 3): 3, (2, 4): 3, (3, 4): 4}
        for (one, other), at in wrong.items():
            row = list(lines)
            row[one], row[other] = row[other], row[one]
            self.assert_no_text(at, "\n".join(row))

    def test_a_line_put_in(self):
        lines = HOME.split("\n")
        # The line, its place, and the number of the line that is wrong then.
        rows = [("rooms 3", place, max(place, 1)) for place in range(6)]
        rows += [("x 1", place, place) for place in range(6)]
        rows += [("door 0 2 -", 0, 0), ("door 0 2 -", 4, 4), ("door 0 2 -", 5, 5)]
        rows += [("floor 1 a", 0, 0), ("floor 1 a", 1, 2), ("floor 1 a", 2, 3), ("floor 1 a", 5, 5)]
        rows += [("cradles", 0, 0)] + [("cradles", place, place + 1) for place in range(1, 5)]
        for line, place, at in rows:
            self.assert_no_text(at, "\n".join(lines[:place] + [line] + lines[place:]))
        rows = [("door 0 2 -", 1), ("door 0 2 -", 2), ("door 0 2 -", 3), ("floor 1 a", 3), ("floor 1 a", 4)]
        for line, place in rows:
            house = House.read("\n".join(lines[:place] + [line] + lines[place:]))
            self.assertIn(line, str(house).split("\n"))

    def test_words_of_a_line(self):
        for line in (
            "door", "door 0", "door 0 1", "door 0 1 a b", "door 0 1 -  ", "door 0 1 - ", " door 0 1 -", "door  0 1 -",
            "door 0  1 -", "door 0 1  -", "door 0 1 --", "door 0 1 abcde", "door 0 1 A", "door 0 1 a1", "door 0 1 ",
            "door 0 - 1", "door a 1 -", "door 0 a -", "door 00 1 -", "door 0 01 -", "door 100 1 -", "door 0 100 -",
            "door +0 1 -", "door -0 1 -", "door 0 1 \u00e9", "door 0 \u0661 -", "door 0 \u00b2 -", "door 0 1\t-",
            "DOOR 0 1 -",
            "doors 0 1 -", "floor", "floor 1", "floor 1 -", "floor 1 a b", "floor 1 abcde", "floor 01 a", "floor 001 a",
            "floor a 1", "floor  1 a", "floor 1  a", "floor 1 a ", " floor 1 a", "floor -1 a", "floor 1 B",
            "floor 100 a", "floors 1 a", "floor 1 \u00e9", "cradles ", "cradles  1", "cradles 1 ", "cradles 1  2",
            " cradles", "cradle", "cradles 01", "cradles 100", "cradles a", "cradles -", "cradles 1 a", "cradles -1",
            "cradles 1,2", "Cradles",
            "cradles\r", "cradles 1\r", "rooms 3", "", " ", "-",
        ):
            self.assert_no_text(1, "rooms 3\n" + line + "\ncradles 2")
            self.assert_no_text(1, "rooms 3\n" + line)
            self.assert_no_text(2, "rooms 3\ndoor 0 1 -\n" + line + "\ncradles 2")

    def test_the_rooms_line(self):
        for line in (
            "rooms", "rooms ", "rooms 03", "rooms 003", "rooms 100", "rooms 3 3", "rooms 3 ", "rooms  3", " rooms 3",
            "rooms three", "rooms -3", "rooms +3", "rooms -", "rooms \u0663", "Rooms 3", "room 3", "rooms 00",
            "rooms\t3",
        ):
            self.assert_no_text(0, line + "\ncradles")
            self.assert_no_text(0, line)

    def test_every_character(self):
        for code in range(32, 127):
            sign = chr(code)
            if "0" <= sign <= "9":
                self.assertEqual(House.read("rooms 20\ncradles 1" + sign).cradles, (int("1" + sign),))
            else:
                self.assert_no_text(0, "rooms " + sign + "\ncradles")
                self.assert_no_text(1, "rooms 20\ncradles" + sign)
                if sign != " ":
                    self.assert_no_text(1, "rooms 20\ncradles 1" + sign)
            if "a" <= sign <= "z":
                self.assertEqual(House.read("rooms 2\nfloor 1 b" + sign + "\ncradles").noises, ("b" + sign,))
                self.assertEqual(House(2, [(0, 1, sign)]).noises, (sign,))
            else:
                self.assert_no_text(1, "rooms 2\nfloor 1 b" + sign + "\ncradles")
                self.assert_invalid("doors", 2, [(0, 1, sign)])
                self.assert_invalid("floors", 2, [], [(0, "b" + sign)])

    def test_only_newlines_part_lines(self):
        for sign in ("\r", "\r\n", "\x0b", "\x0c", "\u2028", "\x85"):
            self.assert_no_text(0, "rooms 3" + sign + "cradles")

    def test_the_first_of_two_wrong_lines(self):
        self.assert_no_text(0, "rooms 03\ndoor 0 1\ncradles")
        self.assert_no_text(1, "rooms 3\ndoor 0 1\nfloor 01 a\ncradles 00")
        self.assert_no_text(2, "rooms 3\ndoor 0 1 -\nfloor 01 a\ncradles 00")
        self.assert_no_text(3, "rooms 3\ndoor 0 1 -\nfloor 1 a\ncradles 00")
        self.assert_no_text(1, "rooms 3\ndoor 0 1")
        self.assert_no_text(1, "rooms 3\nx\ncradles\ny")

    def test_lines_are_checked_ahead_of_the_house(self):
        self.assert_no_text(1, "rooms 0\nx")
        self.assert_no_text(2, "rooms 2\ndoor 0 0 -\ncradles 00")
        self.assert_no_text(2, "rooms 2\ndoor 5 0 -")
        self.assert_no_text(1, "rooms 0")
        self.assert_no_text(3, "rooms 2\nfloor 0 a\nfloor 0 a\nfloor 0 -\ncradles")
        self.assert_no_text(2, "rooms 2\ncradles 1 1\n")

    def test_texts_of_no_house(self):
        self.assert_text_of_none("rooms", "rooms 0\ncradles")
        self.assert_text_of_none("doors", "rooms 3\ndoor 1 1 -\ncradles")
        self.assert_text_of_none("doors", "rooms 3\ndoor 0 3 a\ncradles")
        self.assert_text_of_none("doors", "rooms 3\ndoor 99 0 a\ncradles")
        self.assert_text_of_none("floors", "rooms 3\nfloor 3 a\ncradles")
        self.assert_text_of_none("floors", "rooms 3\nfloor 1 a\nfloor 1 a\ncradles")
        self.assert_text_of_none("cradles", "rooms 3\ncradles 3")
        self.assert_text_of_none("cradles", "rooms 3\ncradles 1 2 1")

    def test_the_first_wrong_argument_of_a_text(self):
        self.assert_text_of_none("rooms", "rooms 0\ndoor 0 0 -\nfloor 0 a\nfloor 0 a\ncradles 9 9")
        self.assert_text_of_none("doors", "rooms 1\ndoor 0 0 -\nfloor 0 a\nfloor 0 a\ncradles 9 9")
        self.assert_text_of_none("floors", "rooms 1\nfloor 0 a\nfloor 0 a\ncradles 9 9")


class Equality(HouseCase):
    def test_equal(self):
        self.assertTrue(home() == home())
        self.assertFalse(home() != home())
        self.assertTrue(House(2, [(0, 1, "a")], [(1, "b"), (0, "a")], [1, 0]) == House(
            2, ((0, 1, "a"),), ((0, "a"), (1, "b")), (0, 1)))

    def test_unlike_in_one_argument(self):
        unlike = [
            House(4, [(0, 1, "gate"), (1, 2, None)], [(2, "plnk")], [2]),
            House(3, [(1, 0, "gate"), (1, 2, None)], [(2, "plnk")], [2]),
            House(3, [(1, 2, None), (0, 1, "gate")], [(2, "plnk")], [2]),
            House(3, [(0, 1, "gate"), (1, 2, "a")], [(2, "plnk")], [2]),
            House(3, [(0, 1, "gate")], [(2, "plnk")], [2]),
            House(3, [(0, 1, "gate"), (1, 2, None)], [(2, "plnk"), (1, "plnk")], [2]),
            House(3, [(0, 1, "gate"), (1, 2, None)], [(2, "gate")], [2]),
            House(3, [(0, 1, "gate"), (1, 2, None)], [(2, "plnk")], [2, 1]),
            House(3, [(0, 1, "gate"), (1, 2, None)], [(2, "plnk")], []),
        ]
        for house in unlike:
            self.assertFalse(house == home())
            self.assertTrue(house != home())
        for one, other in itertools.combinations(unlike, 2):
            self.assertFalse(one == other)

    def test_equal_as_their_texts(self):
        houses = [House(2, doors, floors, cradles) for doors, floors, cradles in itertools.product(
            ([], [(0, 1, "a")], [(1, 0, "a")], [(0, 1, None)]), ([], [(0, "a")], [(1, "a")], [(1, "a"), (0, "a")]),
            ([], [0], [1], [1, 0]))]
        for one, other in itertools.product(houses, repeat=2):
            self.assertIs(one == other, str(one) == str(other))

    def test_things_of_other_classes(self):
        class Whatever:
            def __eq__(self, other):
                return True

        things = [
            None, True, 0, 2, "", HOME, (), [], (3, home().doors, home().floors, home().cradles), sleeper(),
            Whatever(), object(), House, Refused(0),
        ]
        for thing in things:
            self.assertIs(home() == thing, False)
            self.assertIs(home() != thing, True)
        for thing in things:
            if not isinstance(thing, Whatever):
                self.assertIs(thing == home(), False)


class Families(HouseCase):
    def test_errors_are_those_of_the_package(self):
        for work in (lambda: House(0, []), lambda: House.read(""), lambda: House.read("rooms 0\ncradles")):
            with self.assertRaises(HushError):
                work()
        self.assertFalse(issubclass(InvalidHouse, InvalidSleeper))


if __name__ == "__main__":
    unittest.main()
