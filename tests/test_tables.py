"""Tests of hushsteps.tables, point [13], and of [1], [2], [3] as far as they speak of tables."""

import random
import unittest

from hushsteps.guests import unheard
from hushsteps.houses import House
from hushsteps.sleepers import Sleeper, first_state, heard, ticked
from hushsteps.tables import table, table_holds
from samples import FIRSTS, any_values, deep, helped_nights, home, light, objects, small_nights

START = (("asleep",), (0,), (0,))
# A house without doors: each standing whose state stays and in which all is begun is by itself enough behind it.
APART = House(3, [])
# A sleeper who hears a noise of each sort.
HEARER = Sleeper([("bang", "loud"), ("crk", "sudden"), ("drip", "faint"), ("hiss", "soft")], 2, 3, 1, "again")


def quiet():
    return home().mended(["gate"])


def behind(house, sleeper, standing):
    """What comes behind a standing by a tick and by each step, but for waking."""
    state, begun, now = standing
    found = [(ticked(sleeper, state), now, now)]
    floors = dict(house.floors)
    for one, other, noise in house.doors:
        for left, room in ((one, other), (other, one)):
            if left in begun:
                later = state if noise is None else heard(sleeper, state, noise)
                later = heard(sleeper, later, floors[room]) if room in floors else later
                found.append((later, begun, tuple(sorted({*now, room}))))
    return [later for later in found if later[0] != ("woken",)]


def closed(house, sleeper, standings):
    """Standings with all that comes behind them."""
    found = list(standings)
    for standing in found:
        found.extend([later for later in behind(house, sleeper, standing) if later not in found])
    return tuple(dict.fromkeys(found))


def is_right(house, sleeper, first, room, value):
    """Whether unlike standings of the right form are a right table."""
    if (first_state(sleeper, first), (0,), (0,)) not in value or any(room in now for state, begun, now in value):
        return False
    return all(later in value for standing in value for later in behind(house, sleeper, standing))


class TablesCase(unittest.TestCase):
    def assert_holds(self, wanted, house, sleeper, first, room, value):
        told = table_holds(house, sleeper, first, room, value)
        self.assertIs(told, wanted, (str(house), str(sleeper), first, room, value))

    def assert_table(self, house, sleeper, first, room):
        value = table(house, sleeper, first, room)
        self.assertIs(type(value), tuple)
        self.assertTrue(is_right(house, sleeper, first, room, value))
        self.assert_holds(True, house, sleeper, first, room, value)
        self.assert_holds(True, house, sleeper, first, room, value[::-1])
        return value


class Examples(TablesCase):
    def test_as_in_the_document(self):
        value = table(quiet(), light(), "asleep", 2)
        self.assert_holds(True, quiet(), light(), "asleep", 2, value)
        self.assertIsNone(table(home(), light(), "asleep", 2))
        self.assert_holds(False, quiet(), light(), "asleep", 2, ())

    def test_written_out(self):
        value = (START, (("asleep",), (0,), (0, 1)), (("asleep",), (0, 1), (0, 1)))
        self.assertEqual(sorted(table(quiet(), light(), "asleep", 2)), sorted(value))
        self.assert_holds(True, quiet(), light(), "asleep", 2, value)
        self.assert_holds(False, home(), light(), "asleep", 2, value)
        self.assert_holds(False, quiet(), light(), "dozing", 2, value)
        self.assert_holds(False, quiet(), light(), "up", 2, value)

    def test_by_parameter_names(self):
        value = table(room=2, first="asleep", sleeper=light(), house=quiet())
        self.assertIs(table_holds(value=value, room=2, first="asleep", sleeper=light(), house=quiet()), True)

    def test_the_same_calls_again(self):
        house, sleeper = quiet(), light()
        value = table(house, sleeper, "asleep", 2)
        table(home(), sleeper, "dozing", 1)
        self.assertEqual(table(house, sleeper, "asleep", 2), value)
        self.assert_holds(True, house, sleeper, "asleep", 2, value)
        self.assertEqual((house, sleeper), (quiet(), light()))

    def test_the_street_is_always_come_to(self):
        for first in FIRSTS:
            for house in (home(), APART, House(1, [])):
                self.assertIsNone(table(house, light(), first, 0))
                self.assert_holds(False, house, light(), first, 0, closed(house, light(), [START]))

    def test_beyond_the_limits(self):
        house = House(7, [(room, room + 1, "drip" if room % 2 else None) for room in range(5)])
        names = ["drip", "a", "b", "c", "d", "e", "f"]
        self.assert_table(house, Sleeper([(name, "faint") for name in names], 9, 8, 4, "again"), "dozing", 6)


class SmallHouses(TablesCase):
    def assert_night(self, house, sleeper, first):
        rooms = unheard(house, sleeper, first)
        for room in range(house.rooms):
            if room in rooms:
                self.assertIsNone(table(house, sleeper, first, room))
                value = closed(house, sleeper, [(first_state(sleeper, first), (0,), (0,))])
                self.assert_holds(False, house, sleeper, first, room, value)
            else:
                self.assert_all_about(house, sleeper, first, room, self.assert_table(house, sleeper, first, room))

    def assert_all_about(self, house, sleeper, first, room, value):
        shuffled = list(value)
        random.Random(len(value)).shuffle(shuffled)
        self.assert_holds(True, house, sleeper, first, room, tuple(shuffled))
        self.assert_holds(False, house, sleeper, first, room, shuffled)
        self.assert_holds(False, house, sleeper, first, room, ())
        for at in range(min(len(value), 12)):
            left = value[:at] + value[at + 1:]
            self.assert_holds(is_right(house, sleeper, first, room, left), house, sleeper, first, room, left)
            self.assert_holds(False, house, sleeper, first, room, value + (value[at],))
        for other in range(house.rooms):
            wanted = is_right(house, sleeper, first, other, value)
            self.assert_holds(wanted, house, sleeper, first, other, value)
        for other in FIRSTS:
            self.assert_holds(is_right(house, sleeper, other, room, value), house, sleeper, other, room, value)

    def test_small_houses(self):
        for house, sleeper, first in small_nights(21, 400, 4, 5):
            self.assert_night(house, sleeper, first)

    def test_houses_with_helpers(self):
        for house, sleeper, first in helped_nights(22, 150):
            self.assert_night(house, sleeper, first)

    def test_every_first_of_the_document(self):
        for first in FIRSTS:
            self.assert_night(home(), light(), first)
            self.assert_night(quiet(), light(), first)
            self.assert_night(home().mended(["gate", "plnk"]), light(), first)
            self.assert_night(House(5, [(0, 1, "hiss"), (2, 1, "drip"), (3, 4, None)]), HEARER, first)


class NotRight(TablesCase):
    def test_a_standing_left_out(self):
        value = table(quiet(), light(), "asleep", 2)
        for at in range(len(value)):
            self.assert_holds(False, quiet(), light(), "asleep", 2, value[:at] + value[at + 1:])

    def test_a_standing_twice(self):
        value = table(quiet(), light(), "asleep", 2)
        for standing in value:
            self.assert_holds(False, quiet(), light(), "asleep", 2, value + (standing,))
            self.assert_holds(False, quiet(), light(), "asleep", 2, (standing,) + value)

    def test_a_list(self):
        value = table(quiet(), light(), "asleep", 2)
        self.assert_holds(False, quiet(), light(), "asleep", 2, list(value))
        self.assert_holds(False, quiet(), light(), "asleep", 2, (value,))
        self.assert_holds(False, quiet(), light(), "asleep", 2, (value, value))

    def test_another_room(self):
        value = table(quiet(), light(), "asleep", 2)
        for room in (0, 1):
            self.assert_holds(False, quiet(), light(), "asleep", room, value)

    def test_each_thing_behind_is_wanted(self):
        # A tick alone, a step alone, and the step back; each lacks in one of the tables.
        house = House(3, [(0, 1, None)])
        both, come = (("asleep",), (0, 1), (0, 1)), (("asleep",), (0,), (0, 1))
        self.assert_holds(True, house, light(), "asleep", 2, (START, come, both))
        self.assert_holds(False, house, light(), "asleep", 2, (START, come))
        self.assert_holds(False, house, light(), "asleep", 2, (START, both))
        self.assert_holds(False, house, light(), "asleep", 2, (come, both))
        there = (("asleep",), (1,), (1,))
        back = (("asleep",), (1,), (0, 1))
        self.assert_holds(True, house, light(), "asleep", 2, (START, come, both, there, back))
        self.assert_holds(False, house, light(), "asleep", 2, (START, come, both, there))

    def test_what_wakes_needs_nothing(self):
        house = House(3, [(0, 1, "bang"), (0, 2, None)], [(2, "crk")])
        self.assert_holds(True, house, HEARER, "asleep", 1, (START,))
        self.assert_holds(True, house, HEARER, "asleep", 2, (START,))
        self.assert_holds(False, house, light(), "asleep", 2, (START,))
        start = (("dozing", 3), (0,), (0,))
        value = (start, (("dozing", 2), (0,), (0,)), (("dozing", 1), (0,), (0,)), START)
        self.assert_holds(False, house, HEARER, "dozing", 1, value)
        self.assert_holds(True, APART, HEARER, "dozing", 1, value)

    def test_stirring_that_runs_out(self):
        # Behind the last tick of stirring the sleeper is woken, and nothing is wanted.
        house = House(3, [(0, 1, "hiss"), (1, 2, "bang")])
        value = closed(house, HEARER, [START])
        self.assertIn((("stirring", 1), (0, 1), (0, 1)), value)
        self.assert_holds(True, house, HEARER, "asleep", 2, value)


class NeverCome(TablesCase):
    def test_those_of_another_first(self):
        house = House(3, [(0, 1, "hiss")], [(1, "drip")])
        value = closed(house, HEARER, [(first_state(HEARER, first), (0,), (0,)) for first in FIRSTS])
        for first in FIRSTS:
            self.assert_holds(True, house, HEARER, first, 2, value)
            self.assert_holds(True, house, HEARER, first, 2, value[::-1])

    def test_lots_without_the_street(self):
        there = (("asleep",), (1,), (1,))
        self.assert_holds(True, APART, light(), "asleep", 2, (START, there))
        self.assert_holds(True, APART, light(), "asleep", 2, (there, START))
        self.assert_holds(False, APART, light(), "asleep", 1, (START, there))
        self.assert_holds(False, APART, light(), "asleep", 2, (there,))
        far = (("asleep",), (1,), (1, 2))
        self.assert_holds(False, APART, light(), "asleep", 2, (START, far, (("asleep",), (1, 2), (1, 2))))

    def test_each_state(self):
        states = [("up",), ("asleep",)] + [("dozing", t) for t in (1, 2, 3)] + [("stirring", t) for t in (1, 2)]
        states += [("asleep", "drip", ago) for ago in (0, 1)]
        value = (START,) + tuple((state, (0, 1), (0, 1)) for state in states)
        self.assert_holds(True, APART, HEARER, "asleep", 2, value)
        for at in range(len(value)):
            left = value[:at] + value[at + 1:]
            self.assert_holds(is_right(APART, HEARER, "asleep", 2, left), APART, HEARER, "asleep", 2, left)

    def test_a_faint_noise_that_the_house_has_not(self):
        states = [("asleep", "drip", ago) for ago in (0, 1)]
        value = (START,) + tuple((state, (0,), (0,)) for state in states)
        self.assertNotIn("drip", APART.noises)
        self.assert_holds(True, APART, HEARER, "asleep", 1, value)


def everything(sleeper):
    """All standings of the right form with the rooms 0 and 1 alone, the beginning first."""
    states = [("asleep",), ("up",)] + [("dozing", t) for t in range(1, sleeper.doze + 1)]
    states += [("stirring", t) for t in range(1, sleeper.stir + 1)]
    faint = [name for name, sort in sleeper.sorts if sort == "faint"]
    states += [("asleep", name, ago) for name in faint for ago in range(sleeper.near + 1)]
    lots = [((0,), (0,)), ((0,), (0, 1)), ((0, 1), (0, 1)), ((1,), (0, 1)), ((1,), (1,))]
    return tuple([(state, begun, now) for state in states for begun, now in lots])


class Forms(TablesCase):
    """Of right tables of the house APART, room 2: only ticks lead on there, and all that they lead to is there."""

    def assert_none(self, *standings):
        """That things may stand nowhere in a table that is right without them."""
        value = everything(HEARER)
        for at in (0, 1, len(value)):
            self.assert_holds(False, APART, HEARER, "asleep", 2, value[:at] + standings + value[at:])

    def test_good_ones(self):
        for sleeper in (HEARER, light(), Sleeper([("a", "faint"), ("b", "faint")], 5, 4, 2, "wake")):
            value = everything(sleeper)
            for first in FIRSTS:
                self.assert_holds(True, APART, sleeper, first, 2, value)
                self.assert_holds(False, APART, sleeper, first, 1, value)
            self.assert_holds(True, APART, sleeper, "asleep", 2, value[::-1])

    def test_no_triples(self):
        for value in any_values() + [(("up",),), (("up",), (0,)), (("up",), (0,), (0,), (0,)), [("up",), (0,), (0,)],
                                     ("up", (0,), (0,)), ((), (0,), (0,)), (("up",), 0, 0), (None, None, None)]:
            self.assert_none(value)

    def test_states_of_another_form(self):
        wrong = [
            "up", ["up"], ("woken",), ("up", 0), ("up", "up"), ("Up",), ("",), (None,), (0,), (("up",),), ("doze",),
            ("dozing",), ("dozing", 0), ("dozing", 4), ("dozing", -1), ("dozing", True), ("dozing", "1"),
            ("dozing", None), ("dozing", (1,)), ("dozing", 1, 1), ["dozing", 1], ("dozing", 10 ** 6),
            ("stirring",), ("stirring", 0), ("stirring", 3), ("stirring", True), ("stirring", "1"), ("stirring", 1, 1),
            ("stirring", -1), ["stirring", 1], ("stirring", [1]),
            ("asleep", "drip"), ("asleep", "drip", 2), ("asleep", "drip", -1), ("asleep", "drip", True),
            ("asleep", "drip", False), ("asleep", "drip", None), ("asleep", "drip", "0"), ("asleep", "drip", 0, 0),
            ("asleep", 0), ("asleep", 0, "drip"), ("asleep", "bang", 0), ("asleep", "crk", 0), ("asleep", "hiss", 0),
            ("asleep", "zzz", 0), ("asleep", "", 0), ("asleep", None, 0), ("asleep", ["drip"], 0),
            ("asleep", ("drip",), 0), ["asleep"], ["asleep", "drip", 0], ("up", "drip", 0), ("asleep", "faint", 0),
        ]
        for state in wrong + any_values():
            for lot in ((0,), (1,), (0, 1)):
                self.assert_none((state, lot, lot))
        for name in ("bang", "crk", "hiss", "zzz", "", "faint"):
            # What they lead to is there, too.
            self.assert_none((("asleep", name, 0), (0,), (0,)), (("asleep", name, 1), (0,), (0,)))

    def test_lots_of_another_form(self):
        wrong = [
            (1, 0), (0, 0), (0, 1, 1), (3,), (0, 3), (-1,), (-1, 0), (True,), (False,), (0, True), ("0",), (None,),
            ((0,),), [0], [0, 1], 0, None, "0", "", ("",), (0, None), (0, 1, 99), (0, (1,)), ([0],), (0, 0, 1),
        ]
        for lot in wrong + [value for value in any_values() if value != (0,)]:
            self.assert_none((("up",), lot, lot))
            self.assert_none((("up",), (0,), lot), (("up",), lot, lot))
            self.assert_none((("up",), lot, (0, 1)))
            self.assert_none((("up",), (), lot), (("up",), lot, lot))

    def test_what_has_begun(self):
        self.assert_none((("up",), (), ()))
        self.assert_none((("up",), (), (0,)))
        self.assert_none((("up",), (0, 1), (0,)))
        self.assert_none((("up",), (0,), (1,)))
        self.assert_none((("up",), (0,), ()))
        self.assert_none((("up",), (1,), (0,)))

    def test_parts_of_the_sleeper(self):
        for stir, doze, near in ((1, 1, 1), (2, 4, 2), (5, 5, 2), (3, 1, 1)):
            sleeper = Sleeper([("drip", "faint"), ("tap", "faint"), ("bang", "loud")], stir, doze, near, "wake")
            value = everything(sleeper)
            for ticks in range(-1, 8):
                for state, good in ((("dozing", ticks), 1 <= ticks <= doze), (("stirring", ticks), 1 <= ticks <= stir),
                                    (("asleep", "drip", ticks), 0 <= ticks <= near),
                                    (("asleep", "tap", ticks), 0 <= ticks <= near)):
                    standing = (state, (0, 1), (0, 1))
                    if good:
                        self.assertIn(standing, value)
                    else:
                        self.assert_holds(False, APART, sleeper, "asleep", 2, value + (standing,))

    def test_true_as_a_number_beside_the_number(self):
        # Python takes True for 1, so a table with both would have one of them twice if it were of the form.
        value = closed(APART, HEARER, [START, (("dozing", 1), (1,), (1,))])
        self.assert_holds(True, APART, HEARER, "asleep", 2, value)
        at = value.index((("dozing", 1), (1,), (1,)))
        for standing in ((("dozing", True), (1,), (1,)), (("dozing", 1), (True,), (1,)),
                         (("dozing", 1), (1,), (True,))):
            self.assert_holds(False, APART, HEARER, "asleep", 2, value[:at] + (standing,) + value[at + 1:])
        for standing in ((("asleep",), (False,), (0,)), (("asleep",), (0,), (False,))):
            self.assert_holds(False, APART, HEARER, "asleep", 2, (standing,))
            self.assert_holds(False, APART, HEARER, "asleep", 2, (START, standing))


class AnyValues(TablesCase):
    def test_any_values(self):
        right = table(quiet(), light(), "asleep", 2)
        for value in any_values() + [right[0], right[0][0], deep(right), (deep(right[0]),)]:
            for held in (value, (value,), [value], ((value,),), ((value, value, value),), (value, value),
                         right + (value,), (value,) + right, ((("up",), (0,), value),), ((value, (0,), (0,)),)):
                self.assert_holds(False, quiet(), light(), "asleep", 2, held)
                self.assert_holds(False, APART, HEARER, "dozing", 1, held)

    def test_objects_within_states_and_lots(self):
        for thing in objects():
            for standing in (((thing,), (0,), (0,)), (("dozing", thing), (0,), (0,)),
                             (("asleep", thing, 0), (0,), (0,)), (("asleep", "drip", thing), (0,), (0,)),
                             (("up",), (thing,), (0,)), (("up",), (0,), (0, thing))):
                self.assert_holds(False, APART, HEARER, "asleep", 2, (START, standing))


if __name__ == "__main__":
    unittest.main()
