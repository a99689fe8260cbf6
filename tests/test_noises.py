"""Tests of hushsteps.noises, point [20], and of [1], [2], [3] as far as they speak of it."""

import random
import unittest

from hushsteps.errors import HushError, InvalidNoises
from hushsteps.houses import House
from hushsteps.noises import first_wrong, possible, where
from hushsteps.sleepers import Sleeper
from hushsteps.walks import Walk, play
from samples import any_values, deep, home, objects, small_house

DEAF = Sleeper([], 1, 1, 1, "again")
FUNCTIONS = (possible, first_wrong, where)


def steps_of(house, room):
    """All that somebody in a room can do between two ticks: triples (event or None, room, noises)."""
    told = [(None, room, frozenset())]
    floors = dict(house.floors)
    for number, (one, other, noise) in enumerate(house.doors):
        if room in (one, other):
            behind = one + other - room
            noises = {noise, floors.get(behind)} - {None}
            told.append((f"step {{}} {number}", behind, frozenset(noises)))
    return told


def led_on(house, people, lot):
    """Where people can be behind a stretch with just these noises: their rooms, with the events of each."""
    rows = {((), frozenset()): []}
    for person, room in enumerate(people):
        further = {}
        for (rooms, made), events in rows.items():
            for event, behind, noises in steps_of(house, room):
                if noises <= set(lot):
                    more = [] if event is None else [event.format(person)]
                    further.setdefault((rooms + (behind,), made | noises), events + more)
        rows = further
    return {rooms: events for (rooms, made), events in rows.items() if made == set(lot)}


def reckoned(house, lots, guests):
    """The number of the first lot that so many guests can't have made or None, and the rooms where they can be."""
    rows = {(0,) * guests: []}
    for at, lot in enumerate(lots):
        further = {}
        for people, events in rows.items():
            for rooms, more in led_on(house, people, lot).items():
                key = tuple(sorted(rooms))
                if key not in further:
                    # Guests who change places are alike, but the events must name the right ones.
                    order = sorted(range(guests), key=lambda guest: rooms[guest])
                    further[key] = (events + more + ["tick"], order)
        if not further:
            return at, None, None
        rows = {key: renamed(events, order) for key, (events, order) in further.items()}
    return None, tuple(sorted({room for people in rows for room in people})), list(rows.values())


def renamed(events, order):
    """Events in which the people are numbered by their places in this order."""
    told = []
    for event in events:
        words = event.split(" ")
        told.append(event if event == "tick" else f"step {order.index(int(words[1]))} {words[2]}")
    return told


class NoisesCase(unittest.TestCase):
    def assert_told(self, house, lots, wrong, rooms):
        """That the first wrong lot is this (None if there is none), and else the rooms are these."""
        shown = (str(house), lots)
        self.assertEqual(first_wrong(house, lots), wrong, shown)
        self.assertIsNot(type(first_wrong(house, lots)), bool)
        self.assertIs(possible(house, lots), wrong is None, shown)
        self.assertEqual(where(house, lots), rooms, shown)
        if wrong is None:
            self.assertIs(type(where(house, lots)), tuple)

    def assert_invalid(self, at, lots):
        for function in FUNCTIONS:
            for house in (home(), House(1, [])):
                with self.assertRaises(InvalidNoises) as caught:
                    function(house, lots)
                self.assertEqual(caught.exception.at, at, lots)
                self.assertIs(type(caught.exception.at), int)
                self.assertIs(type(caught.exception), InvalidNoises)
                self.assertIsInstance(caught.exception, HushError)


class Examples(NoisesCase):
    def test_as_in_the_document(self):
        self.assertIs(possible(home(), [["gate"], ["plnk"]]), True)
        self.assertEqual(first_wrong(home(), [["gate"], [], ["gate", "plnk"], ["drip"]]), 3)
        self.assertEqual(where(home(), [["gate"], []]), (0, 1))
        self.assert_told(home(), [["gate"], ["plnk"]], None, (0, 1, 2))
        self.assert_told(home(), [["gate"], [], ["gate", "plnk"], ["drip"]], 3, None)

    def test_by_parameter_names(self):
        self.assertIs(possible(lots=[["gate"]], house=home()), True)
        self.assertIsNone(first_wrong(lots=[["gate"]], house=home()))
        self.assertEqual(where(lots=[["gate"]], house=home()), (0, 1))

    def test_what_is_handed_in_stays(self):
        house, lots = home(), [["plnk", "gate"], ("gate",), []]
        for _ in range(2):
            self.assert_told(house, lots, 0, None)
            self.assert_told(house, [["gate"], lots[0]], None, (0, 1, 2))
        self.assertEqual((house, lots), (home(), [["plnk", "gate"], ("gate",), []]))


class Rows(NoisesCase):
    def test_the_empty_row(self):
        for house in (home(), House(1, []), House(3, [(0, 1, None), (0, 2, None)])):
            self.assert_told(house, [], None, (0,))
            self.assert_told(house, (), None, (0,))

    def test_empty_lots(self):
        house = House(4, [(0, 1, None), (2, 1, None), (2, 3, "gate")])
        for many, rooms in ((1, (0, 1)), (2, (0, 1, 2)), (3, (0, 1, 2)), (30, (0, 1, 2))):
            self.assert_told(house, [[]] * many, None, rooms)
        self.assert_told(home(), [[], ()], None, (0,))

    def test_ahead_of_the_next_tick(self):
        # Nobody goes on through a second door before the tick.
        house = House(3, [(0, 1, None), (1, 2, "gate")])
        self.assert_told(house, [["gate"]], 0, None)
        self.assert_told(house, [[], ["gate"]], None, (0, 1, 2))
        self.assert_told(house, [[]], None, (0, 1))

    def test_lists_and_tuples(self):
        for lots in ([["gate"], ["plnk"]], (["gate"], ["plnk"]), [("gate",), ("plnk",)], (("gate",), ("plnk",)),
                     [("gate",), ["plnk"]]):
            self.assert_told(home(), lots, None, (0, 1, 2))

    def test_names_in_any_order(self):
        for lot in (["gate", "plnk"], ["plnk", "gate"], ("plnk", "gate")):
            self.assert_told(home(), [["gate"], lot], None, (0, 1, 2))
            self.assert_told(home(), [lot], 0, None)

    def test_noises_that_the_house_has_not(self):
        for name in ("drip", "a", "zzzz", "plnk"):
            house = House(2, [(0, 1, "gate")])
            self.assert_told(house, [[name]], 0, None)
            self.assert_told(house, [["gate", name]], 0, None)
            self.assert_told(house, [["gate"], [], [name]], 2, None)

    def test_the_first_wrong_lot(self):
        self.assert_told(home(), [["plnk"], ["gate"], ["drip"]], 0, None)
        self.assert_told(home(), [["gate"], ["drip"], ["drip"], ["zz"]], 1, None)
        self.assert_told(home(), [["drip"], ["gate"]], 0, None)
        self.assert_told(home(), [["gate"]] * 29 + [["drip"]], 29, None)

    def test_no_others(self):
        # The door to room 1 makes a noise that was not told.
        self.assert_told(House(2, [(0, 1, "gate")]), [[]], None, (0,))
        self.assert_told(House(2, [(0, 1, "gate")], [(1, "plnk")]), [["plnk"]], 0, None)
        self.assert_told(House(2, [(0, 1, "gate"), (0, 1, None)], [(1, "plnk")]), [["plnk"]], None, (0, 1))

    def test_only_together_with_another(self):
        house = House(2, [(0, 1, "gate")], [(1, "plnk")])
        for lot in (["gate"], ["plnk"]):
            self.assert_told(house, [lot], 0, None)
        self.assert_told(house, [["gate", "plnk"]], None, (0, 1))
        # On the way back the floor of room 1 makes no noise.
        self.assert_told(house, [["gate", "plnk"], ["gate"]], None, (0, 1))
        self.assert_told(house, [["gate", "plnk"], ["plnk"]], 1, None)
        self.assert_told(house, [["gate", "plnk"], ["gate", "plnk"]], None, (0, 1))

    def test_the_same_noise_at_door_and_floor(self):
        self.assert_told(House(2, [(0, 1, "a")], [(1, "a")]), [["a"]], None, (0, 1))

    def test_several_guests(self):
        house = House(3, [(0, 1, "a"), (0, 2, "b")])
        self.assert_told(house, [["a", "b"]], None, (0, 1, 2))
        self.assert_told(house, [["a"], ["a", "b"]], None, (0, 1, 2))
        self.assert_told(house, [["a"], ["b"], ["a"]], None, (0, 1, 2))
        # One stays in the street to make "a" again, another one is far away by then.
        house = House(4, [(0, 1, "a"), (1, 2, None), (2, 3, "b")])
        self.assert_told(house, [["a"], [], ["a", "b"]], None, (0, 1, 2, 3))

    def test_the_street_can_be_told_too(self):
        house = House(2, [(0, 1, None)], [(0, "mat")])
        self.assert_told(house, [["mat"]], 0, None)
        self.assert_told(house, [[], ["mat"]], None, (0, 1))

    def test_a_house_of_one_room(self):
        for house in (House(1, []), House(1, [], [(0, "mat")])):
            self.assert_told(house, [[], []], None, (0,))
            self.assert_told(house, [[], ["mat"]], 1, None)

    def test_beyond_the_limits(self):
        house = House(9, [(room, room + 1, "drip" if room % 2 else None) for room in range(8)])
        self.assert_told(house, [["drip"] if at % 2 else [] for at in range(60)], None, tuple(range(9)))


class Invalid(NoisesCase):
    def test_no_sequence(self):
        for value in objects() + [None, True, False, 0, 1, 7, "", "gate", "gate plnk"]:
            self.assert_invalid(0, value)

    def test_things_that_are_no_lots(self):
        wrong = objects() + [
            None, True, False, 0, 1, "", "gate", "a", ["gate", "gate"], ("a", "b", "a"), [""], ["Gate"], ["gates"],
            ["gate "], ["ga te"], ["-"], ["g1"], ["gate", None], ["gate", 0], [["gate"]], (("gate",),), [[]], [()],
            ["gate", ["plnk"]], [True], [None], [0], ["\u00e9"], ["gate", "plnk", "gate"], deep("gate"), deep([]),
        ]
        for value in wrong:
            for good in ([], [["gate"]], [["gate"], (), ["drip"]]):
                for further in ([], [["gate"]], [None], ["gate", 7]):
                    self.assert_invalid(len(good), good + [value] + further)
                    self.assert_invalid(len(good), tuple(good + [value] + further))

    def test_any_values(self):
        for value in any_values():
            if isinstance(value, (list, tuple)) and all(isinstance(thing, (list, tuple)) for thing in value):
                continue
            self.assert_invalid(0, value)

    def test_wrong_lots_behind_impossible_ones(self):
        self.assert_invalid(2, [["drip"], ["zzzz"], ["gate", "gate"]])
        self.assert_invalid(1, [["drip"], "gate"])

    def test_nothing_is_changed(self):
        lots = [["plnk", "gate"], ["gate", "gate"]]
        self.assert_invalid(1, lots)
        self.assertEqual(lots, [["plnk", "gate"], ["gate", "gate"]])


class AgainstASearch(NoisesCase):
    def assert_as_searched(self, house, lots, guests):
        wrong, rooms, walks = reckoned(house, lots, guests)
        self.assert_told(house, lots, wrong, rooms)
        for events in walks or []:
            played = play(house, DEAF, Walk(guests, 0, "up", events))
            self.assertEqual(played.ticks, len(lots))
            for tick, lot in enumerate(lots):
                self.assertEqual({name for at, name in played.made if at == tick}, set(lot), (str(house), lots))

    def test_small_houses(self):
        chance = random.Random(81)
        told = []
        for _ in range(250):
            house = small_house(chance, ["a", "b"], chance.randint(2, 3), chance.randint(1, 4))
            lots = [chance.sample(["a", "b"], chance.choice([0, 1, 1, 2])) for _ in range(chance.randint(0, 3))]
            self.assert_as_searched(house, lots, 5)
            told.append(first_wrong(house, lots))
        self.assertGreater(told.count(None), 50)
        self.assertTrue({0, 1, 2} <= set(told))

    def test_rows_of_walks(self):
        # What a walk of the test's own makes is possible, and its guests are where they can be.
        chance = random.Random(82)
        for _ in range(150):
            house = small_house(chance, ["a", "b", "c"], 4, chance.randint(3, 6))
            people = (0, 0, 0)
            lots = []
            for _ in range(chance.randint(0, 6)):
                steps = [chance.choice(steps_of(house, room)) for room in people]
                people = tuple(behind for event, behind, noises in steps)
                lots.append(sorted(frozenset().union(*[noises for event, behind, noises in steps])))
                self.assertIs(possible(house, lots), True)
                self.assertTrue(set(people) <= set(where(house, lots)))


if __name__ == "__main__":
    unittest.main()
