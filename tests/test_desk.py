"""Tests of hushsteps.desk, points [22] and [23], and of [1], [2], [3] as far as they speak of desks."""

import unittest

from hushsteps.desk import Desk
from hushsteps.errors import (
    HushError, InvalidCommand, InvalidEvent, InvalidHouse, InvalidSleeper, InvalidText, Refused,
)
from hushsteps.guests import fewest, unheard
from hushsteps.houses import House
from hushsteps.live import Live
from hushsteps.sleepers import Sleeper
from hushsteps.walks import Walk
from samples import FIRSTS, any_values, home, light, small_nights

HOME = "house rooms 3 ; door 0 1 gate ; door 1 2 - ; floor 2 plnk ; cradles 2"
LIGHT = "sleeper stir 2 doze 3 near 1 loud again gate soft plnk sudden"
OTHER = "sleeper stir 5 doze 2 near 1 loud wake gate soft"
# Commands that are right at a desk with all three, by turns.
RIGHT = ("begin 1 1 asleep", "do step 0 0", "place 0", "unheard asleep", "fewest asleep 2", "undo")


def seen(desk):
    """All that can be seen of a desk."""
    live = desk.live
    told = None
    if live is not None:
        told = (str(live.house), str(live.sleeper), live.walk.guests, live.walk.nurses, live.walk.first,
                live.walk.events, live.played.state, live.played.places, len(live))
    return (str(desk.own_house), str(desk.own_sleeper), told)


def desk_with(*commands):
    desk = Desk()
    for command in commands:
        desk.say(command)
    return desk


def begun():
    return desk_with(HOME, LIGHT, "begin 1 1 asleep")


def early_desks():
    """Desks that lack something, with what they can still be asked of a house and a sleeper, and of what is live."""
    return [(Desk(), False), (desk_with(HOME), False), (desk_with(LIGHT), False), (desk_with(HOME, LIGHT), True),
            (desk_with(HOME, LIGHT, "begin 1 1 asleep", HOME), True)]


class DeskCase(unittest.TestCase):
    def assert_told(self, desk, *rows):
        """That commands, one behind the other, tell these texts."""
        for command, text in rows:
            told = desk.say(command)
            self.assertEqual(told, text, command)
            self.assertIs(type(told), str)

    def assert_invalid(self, desk, command):
        ahead = seen(desk)
        live = desk.live
        with self.assertRaises(InvalidCommand) as caught:
            desk.say(command)
        self.assertIs(type(caught.exception), InvalidCommand, command)
        self.assertIsInstance(caught.exception, HushError)
        self.assertEqual(seen(desk), ahead)
        self.assertIs(desk.live, live)

    def assert_error(self, desk, kind, held, command):
        """That a command raises another error, which keeps this."""
        ahead = seen(desk)
        live = desk.live
        with self.assertRaises(kind) as caught:
            desk.say(command)
        self.assertIs(type(caught.exception), kind, command)
        self.assertEqual(list(vars(caught.exception).values()), [held], command)
        self.assertEqual(seen(desk), ahead)
        self.assertIs(desk.live, live)


class Examples(DeskCase):
    def test_as_in_the_document(self):
        desk = Desk()
        self.assert_told(desk, ("house " + str(home()).replace("\n", " ; "), "2"), ("sleeper " + str(light()), "2"),
                         ("begin 1 1 asleep", "asleep"), ("do step 0 0", "stirring 2"), ("unheard asleep", "0 1 2"),
                         ("do tick", "stirring 1"), ("place 0", "1"), ("do tick", "woken"), ("undo", "undone"),
                         ("fewest asleep 2", "1"))

    def test_a_new_desk(self):
        desk = Desk()
        self.assertEqual((desk.own_house, desk.own_sleeper, desk.live), (None, None, None))

    def test_by_parameter_name(self):
        self.assertEqual(Desk().say(command=HOME), "2")

    def test_not_iterable(self):
        for use in (iter, list, tuple, lambda desk: [*desk], lambda desk: "house" in desk, lambda desk: desk[0], len):
            for desk in (Desk(), begun()):
                with self.assertRaises(TypeError):
                    use(desk)


class Commands(DeskCase):
    def test_house(self):
        desk = Desk()
        for text, doors in (("rooms 1 ; cradles", "0"), ("rooms 1 ; cradles 0", "0"),
                            ("rooms 2 ; door 0 1 - ; door 1 0 a ; cradles", "2"),
                            ("rooms 3 ; floor 2 b ; floor 0 a ; cradles 2 1", "0")):
            self.assert_told(desk, ("house " + text, doors))
            self.assertEqual(desk.own_house, House.read(text.replace(" ; ", "\n")))
            self.assertIs(type(desk.own_house), House)
            self.assertIsNone(desk.own_sleeper)
            self.assertIsNone(desk.live)

    def test_sleeper(self):
        desk = Desk()
        for text, names in (("stir 1 doze 1 near 1 loud wake", "0"), ("stir 5 doze 4 near 2 loud nothing a loud", "1"),
                            ("stir 1 doze 1 near 1 loud wake b soft c faint a loud", "3")):
            self.assert_told(desk, ("sleeper " + text, names))
            self.assertEqual(desk.own_sleeper, Sleeper.read(text))
            self.assertIs(type(desk.own_sleeper), Sleeper)
            self.assertIsNone(desk.own_house)
            self.assertIsNone(desk.live)

    def test_newlines_in_texts(self):
        desk = Desk()
        # " ; " is replaced from left to right, and nothing else is.
        for text, at in (("rooms 1 ; ; ; cradles", 1), ("rooms 1 ; ; cradles", 1), ("rooms 1; cradles", 0),
                         ("rooms 1 ;cradles", 0), ("; rooms 1 ; cradles", 0), ("rooms 1 ; cradles ;", 1),
                         ("rooms 1 ; cradles ; cradles", 2), (";", 0), ("rooms 1", 1), ("; ;", 0),
                         ("rooms 2 ; door 0 1 a ; floor 1", 2)):
            self.assert_error(desk, InvalidText, at, "house " + text)
        self.assert_error(desk, InvalidText, 0, "sleeper stir 1 doze 1 near 1 loud wake ; a loud")
        self.assert_error(desk, InvalidText, 0, "sleeper ; stir 1 doze 1 near 1 loud wake")

    def test_begin(self):
        desk = desk_with(HOME, LIGHT)
        for first, text in (("asleep", "asleep"), ("dozing", "dozing 3"), ("up", "up")):
            for guests, nurses in ((0, 0), (1, 0), (0, 1), (2, 3), (10, 99)):
                self.assert_told(desk, (f"begin {guests} {nurses} {first}", text))
                self.assertIs(type(desk.live), Live)
                self.assertEqual(desk.live.walk, Walk(guests, nurses, first))
                self.assertEqual((desk.live.house, desk.live.sleeper, len(desk.live)), (home(), light(), 0))

    def test_begin_once_more(self):
        desk = begun()
        self.assert_told(desk, ("do step 0 0", "stirring 2"), ("begin 2 0 dozing", "dozing 3"), ("undo", "nothing"),
                         ("place 0", "0"), ("do step 1 0", "dozing 3"))

    def test_do(self):
        desk = begun()
        self.assert_told(desk, ("do step 0 0", "stirring 2"), ("do tick", "stirring 1"), ("do step 0 1", "stirring 1"),
                         ("do step 1 0", "stirring 1"), ("do tick", "woken"), ("do step 1 1", "woken"),
                         ("do hum 1 up", "woken"))
        desk = desk_with(HOME, LIGHT, "begin 0 1 dozing", "do step 0 0", "do tick", "do step 0 1")
        self.assert_told(desk, ("do hum 0 up", "up"), ("do hum 0 doze", "dozing 3"), ("do tick", "dozing 2"))

    def test_the_text_of_each_state(self):
        desk = desk_with("house rooms 2 ; door 0 1 drip ; cradles", "sleeper stir 2 doze 2 near 2 loud wake drip faint",
                         "begin 1 0 dozing")
        self.assert_told(desk, ("do tick", "dozing 1"), ("do tick", "asleep"), ("do step 0 0", "asleep drip 0"),
                         ("do tick", "asleep drip 1"), ("do tick", "asleep drip 2"), ("do tick", "asleep"))

    def test_place(self):
        desk = desk_with(HOME, LIGHT, "begin 2 1 up", "do step 1 0", "do tick", "do step 1 1", "do step 2 0")
        self.assert_told(desk, ("place 0", "0"), ("place 1", "2"), ("place 2", "1"))

    def test_unheard_and_fewest(self):
        desk = desk_with(HOME, LIGHT)
        self.assert_told(desk, ("unheard asleep", "0 1 2"), ("unheard dozing", "0 1 2"), ("unheard up", "0 1 2"),
                         ("fewest asleep 0", "0"), ("fewest asleep 1", "0"), ("fewest asleep 2", "1"))
        desk.say("house rooms 3 ; door 0 1 - ; door 1 2 - ; floor 2 plnk ; cradles 2")
        self.assert_told(desk, ("unheard asleep", "0 1"), ("fewest asleep 2", "never"), ("fewest dozing 2", "1"),
                         ("unheard dozing", "0 1 2"))
        desk.say("house rooms 1 ; cradles")
        self.assert_told(desk, ("unheard asleep", "0"), ("fewest up 0", "0"))

    def test_small_houses(self):
        for house, sleeper, first in small_nights(95, 80):
            desk = desk_with("house " + str(house).replace("\n", " ; "), f"sleeper {sleeper}")
            rooms = " ".join(str(room) for room in unheard(house, sleeper, first))
            self.assert_told(desk, (f"unheard {first}", rooms))
            for room in range(house.rooms):
                ticks = fewest(house, sleeper, first, room)
                self.assert_told(desk, (f"fewest {first} {room}", "never" if ticks is None else str(ticks)))

    def test_undo(self):
        desk = begun()
        self.assert_told(desk, ("undo", "nothing"), ("do tick", "asleep"), ("do step 0 0", "stirring 2"),
                         ("undo", "undone"), ("place 0", "0"), ("undo", "undone"), ("undo", "nothing"),
                         ("undo", "nothing"))
        self.assertEqual(desk.live.walk, Walk(1, 1, "asleep"))

    def test_questions_change_nothing(self):
        desk = begun()
        desk.say("do step 0 0")
        ahead, live = seen(desk), desk.live
        for _ in range(2):
            self.assert_told(desk, ("place 0", "1"), ("unheard asleep", "0 1 2"), ("fewest asleep 2", "1"))
        self.assertEqual(seen(desk), ahead)
        self.assertIs(desk.live, live)


class Keeping(DeskCase):
    def test_a_new_house_ends_what_is_live(self):
        for command in (HOME, "house rooms 1 ; cradles"):
            desk = begun()
            desk.say("do step 0 0")
            desk.say(command)
            self.assertIsNone(desk.live)
            self.assertEqual(desk.own_sleeper, light())
            for early in ("do tick", "place 0", "undo"):
                self.assert_invalid(desk, early)
            self.assert_told(desk, ("unheard asleep", "0 1 2" if command == HOME else "0"),
                             ("begin 1 1 asleep", "asleep"), ("place 0", "0"))

    def test_a_new_sleeper_changes_what_is_live(self):
        desk = begun()
        self.assert_told(desk, ("do step 0 0", "stirring 2"), (OTHER, "1"))
        self.assertEqual((desk.own_sleeper, desk.live.sleeper), (Sleeper.read(OTHER[8:]), Sleeper.read(OTHER[8:])))
        self.assertEqual(desk.live.played.state, ("stirring", 5))
        self.assertEqual(len(desk.live), 2)
        self.assert_told(desk, ("do tick", "stirring 4"), ("place 0", "1"))

    def test_undo_of_a_new_sleeper(self):
        desk = begun()
        self.assert_told(desk, ("do step 0 0", "stirring 2"), (OTHER, "1"), ("undo", "undone"))
        # The live house has its sleeper again; the desk keeps the new one.
        self.assertEqual((desk.own_sleeper, desk.live.sleeper), (Sleeper.read(OTHER[8:]), light()))
        self.assert_told(desk, ("do tick", "stirring 1"), ("undo", "undone"), ("undo", "undone"), ("undo", "nothing"),
                         ("begin 1 0 dozing", "dozing 2"))

    def test_an_equal_sleeper_is_a_deed_too(self):
        desk = begun()
        self.assert_told(desk, (LIGHT, "2"), (LIGHT, "2"), ("undo", "undone"), ("undo", "undone"), ("undo", "nothing"))

    def test_what_was_live_is_left_as_it_was(self):
        desk = begun()
        desk.say("do step 0 0")
        live = desk.live
        desk.say(HOME)
        desk.say(OTHER)
        desk.say("begin 1 1 up")
        self.assertEqual((live.sleeper, live.walk.events, len(live)), (light(), ("step 0 0",), 1))

    def test_deeds_of_the_live_house_itself(self):
        desk = begun()
        desk.live.several(["step 0 0", "tick"])
        self.assert_told(desk, ("place 0", "1"), ("do step 0 1", "stirring 1"), ("undo", "undone"), ("undo", "undone"),
                         ("place 0", "0"), ("undo", "nothing"))

    def test_two_beside_each_other(self):
        one, other = begun(), begun()
        self.assert_told(one, ("do step 0 0", "stirring 2"), (OTHER, "1"))
        self.assert_told(other, ("place 0", "0"), ("undo", "nothing"), ("do tick", "asleep"))
        self.assert_told(one, ("house rooms 1 ; cradles", "0"))
        self.assertEqual((other.own_house, other.own_sleeper, len(other.live)), (home(), light(), 1))
        self.assertIsNone(one.live)


class Invalid(DeskCase):
    def test_too_early(self):
        for desk, both in early_desks():
            for command in ("do tick", "do step 0 0", "do nonsense", "place 0", "place 1", "undo"):
                self.assert_invalid(desk, command)
            for command in ("begin 1 1 asleep", "unheard asleep", "fewest asleep 0"):
                if not both:
                    self.assert_invalid(desk, command)
        for desk, both in early_desks():
            if both:
                self.assert_told(desk, ("unheard asleep", "0 1 2"), ("fewest asleep 2", "1"), ("begin 0 0 up", "up"))

    def test_any_values(self):
        for desk in (Desk(), desk_with(HOME, LIGHT), begun()):
            for value in any_values() + [["undo"], ("undo",), [["undo"]], ["house", "rooms"]]:
                self.assert_invalid(desk, value)

    def test_newlines(self):
        desk = begun()
        for command in RIGHT + (HOME, LIGHT):
            for wrong in (command + "\n", "\n" + command, command.replace(" ", "\n", 1), command.replace(" ", " \n", 1),
                          command + "\n" + command, command + " \n"):
                self.assert_invalid(desk, wrong if "\n" in wrong else wrong + "\n")
        self.assert_invalid(desk, "house " + str(home()))

    def test_empty_words(self):
        desk = begun()
        for command in RIGHT + (HOME, LIGHT):
            for wrong in (command + " ", " " + command, command.replace(" ", "  ", 1), command + "  "):
                if wrong != command:
                    self.assert_invalid(desk, wrong)
        for command in ("", " ", "  ", "house ", "sleeper ", "do ", "do  tick", "do step  0 0", "house  rooms 1",
                        "do tick ", "place ", "undo ", "house rooms 1 ;  ; cradles"):
            self.assert_invalid(desk, command)

    def test_words_left_out_or_put_in(self):
        desk = begun()
        desk.say("do step 0 0")
        for command in ("house", "sleeper", "do", "begin", "place", "unheard", "fewest", "begin 1", "begin 1 1",
                        "begin 1 asleep", "begin asleep", "begin 1 1 asleep asleep", "begin 1 1 1 asleep",
                        "begin asleep 1 1", "place 0 0", "place 0 1", "unheard asleep 2", "unheard asleep up",
                        "unheard 0", "fewest asleep", "fewest 2", "fewest 2 asleep", "fewest asleep 2 2",
                        "fewest asleep up 2", "undo undo", "undo 1", "undo tick"):
            self.assert_invalid(desk, command)

    def test_other_words(self):
        desk = begun()
        for command in ("House rooms 1 ; cradles", "DO tick", "tick", "step 0 0", "asleep", ";", "undone", "Undo",
                        "several tick", "change stir 1", "way asleep 2", "places 0", "houses", "hum 1 up", "0", "-",
                        "do\ttick", "undo\t", "keep", "None"):
            self.assert_invalid(desk, command)

    def test_numbers(self):
        desk = desk_with(HOME, LIGHT, "begin 9 3 asleep")
        wrong = ("01", "00", "001", "100", "000", "-1", "+1", "1.0", "1_0", "a", "-", "1a", "0x1", "\u0661", "\u00b2",
                 "None", "True", "one")
        for word in wrong:
            for command in (f"begin {word} 1 asleep", f"begin 1 {word} asleep", f"place {word}",
                            f"fewest asleep {word}"):
                self.assert_invalid(desk, command)
        self.assert_told(desk, ("place 11", "0"), ("begin 99 0 up", "up"), ("place 98", "0"))

    def test_firsts(self):
        desk = begun()
        for word in ("Asleep", "ASLEEP", "woken", "stirring", "doze", "sleep", "0", "-", "asleep,", "awake", "None"):
            for command in (f"begin 1 1 {word}", f"unheard {word}", f"fewest {word} 2"):
                self.assert_invalid(desk, command)

    def test_people_and_rooms_that_there_are_not(self):
        desk = begun()
        for number in (2, 3, 10, 99):
            self.assert_invalid(desk, f"place {number}")
        for number in (3, 4, 10, 99):
            for first in FIRSTS:
                self.assert_invalid(desk, f"fewest {first} {number}")
        desk.say("begin 0 0 asleep")
        self.assert_invalid(desk, "place 0")


class OtherErrors(DeskCase):
    def test_of_houses(self):
        for desk in (Desk(), desk_with(HOME, LIGHT), begun()):
            for text, at in (("rooms", 0), ("rooms 01 ; cradles", 0), ("cradles", 0), ("rooms 3 ; doors", 1),
                             ("rooms 3 ; cradles 2 ; cradles", 2), ("rooms 3 ; door 0 1 gate", 2), ("x", 0),
                             ("rooms 3 ; floor 0 a ; door 0 1 - ; cradles", 2)):
                self.assert_error(desk, InvalidText, at, "house " + text)
            for text, word in (("rooms 0 ; cradles", "rooms"), ("rooms 1 ; door 0 1 - ; cradles", "doors"),
                               ("rooms 1 ; floor 1 a ; cradles", "floors"), ("rooms 1 ; cradles 1", "cradles"),
                               ("rooms 0 ; door 0 0 - ; cradles 5", "rooms")):
                self.assert_error(desk, InvalidHouse, word, "house " + text)

    def test_of_sleepers(self):
        for desk in (Desk(), desk_with(HOME, LIGHT), begun()):
            for text in ("stir", "x", "stir 2 doze 3 near 1 loud", "stir 2 doze 3 near 1 loud never",
                         "stir 02 doze 3 near 1 loud wake", "stir 2 doze 3 near 1 loud wake gate",
                         "stir 2 doze 3 near 1 loud wake gate quiet", "doze 3 stir 2 near 1 loud wake"):
                self.assert_error(desk, InvalidText, 0, "sleeper " + text)
            for text, word in (("stir 0 doze 3 near 1 loud wake", "stir"), ("stir 1 doze 0 near 0 loud wake", "doze"),
                               ("stir 0 doze 0 near 0 loud wake a soft a soft", "sorts")):
                self.assert_error(desk, InvalidSleeper, word, "sleeper " + text)

    def test_of_events(self):
        desk = begun()
        for many in range(3):
            for event in ("x", "ticks", "tick tick", "step 0", "step 2 0", "hum 2 up", "step 00 0", "hum 1 asleep", ";",
                          "tick ; tick", "do tick", "undo"):
                self.assert_error(desk, InvalidEvent, many, "do " + event)
            for event in ("step 0 1", "step 1 5", "hum 0 up", "hum 1 up"):
                self.assert_error(desk, Refused, many, "do " + event)
            desk.say("do tick")
        desk.say("do step 0 0")
        self.assert_error(desk, Refused, 4, "do step 0 1")


if __name__ == "__main__":
    unittest.main()
