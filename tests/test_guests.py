"""Tests of hushsteps.guests, points [11] and [12], and of [1], [2], [3] as far as they speak of guests."""

import random
import unittest

from hushsteps.errors import Refused
from hushsteps.guests import fewest, unheard, way
from hushsteps.houses import House
from hushsteps.sleepers import Sleeper
from hushsteps.walks import Walk, play
from samples import FIRSTS, RULES, helped_nights, home, light, small_house, small_nights, small_sleeper


def sleeper_of(sorts, stir=2, doze=2, near=1, loud="nothing"):
    return Sleeper(list(sorts.items()), stir, doze, near, loud)


def searched(house, sleeper, first, guests):
    """The fewest ticks to each room that so many guests can come to, found by playing all their walks.

    Guests in the same room who both can or both can't make a step are alike, so one of them is enough to try.
    """
    best = {0: 0}
    start = ((0, False),) * guests
    layer = [(Walk(guests, 0, first), start)]
    seen = {(play(house, sleeper, layer[0][0]).state, start)}
    ticks = 0
    while layer:
        later = []
        for walk, people in layer:
            for event, moved in events_of(house, people):
                further = walk.further([event])
                played = possible_play(house, sleeper, further)
                if played is None or played.woke is not None:
                    continue
                for room in played.places:
                    best.setdefault(room, ticks)
                now = tuple(zip(played.places, moved))
                key = (played.state, tuple(sorted(now)))
                if key not in seen:
                    seen.add(key)
                    (later if event == "tick" else layer).append((further, now))
        layer = later
        ticks += 1
    return best


def events_of(house, people):
    """The events to try, with whether each of the people made a step behind them."""
    yield "tick", [False] * len(people)
    for person, (room, moved) in enumerate(people):
        if not moved and people.index((room, moved)) == person:
            for door in range(len(house)):
                yield f"step {person} {door}", [moved or at == person for at, (_, moved) in enumerate(people)]


def possible_play(house, sleeper, walk):
    try:
        return play(house, sleeper, walk)
    except Refused:
        return None


class GuestsCase(unittest.TestCase):
    def assert_way(self, house, sleeper, first, room, ticks):
        walk = way(house, sleeper, first, room)
        self.assertIs(type(walk), Walk)
        self.assertEqual((walk.first, walk.nurses), (first, 0))
        played = play(house, sleeper, walk)
        self.assertEqual(played.ticks, ticks, (str(house), str(sleeper), first, room))
        self.assertIsNone(played.woke)
        self.assertNotEqual(played.state, ("woken",))
        self.assertIn(room, played.places)

    def assert_rooms(self, house, sleeper, first, best):
        """best tells the fewest ticks of each room that can be come to."""
        told = unheard(house, sleeper, first)
        self.assertEqual(told, tuple(sorted(best)), (str(house), str(sleeper), first))
        self.assertIs(type(told), tuple)
        for room in range(house.rooms):
            self.assertEqual(fewest(house, sleeper, first, room), best.get(room), (str(house), str(sleeper), room))
            if room in best:
                self.assert_way(house, sleeper, first, room, best[room])
            else:
                self.assertIsNone(way(house, sleeper, first, room))


class Examples(GuestsCase):
    def test_as_in_the_document(self):
        self.assertEqual(unheard(home(), light(), "asleep"), (0, 1, 2))
        self.assertEqual(fewest(home(), light(), "asleep", 2), 1)
        self.assertEqual(unheard(home().mended(["gate"]), light(), "asleep"), (0, 1))
        self.assert_rooms(home(), light(), "asleep", {0: 0, 1: 0, 2: 1})
        self.assert_rooms(home().mended(["gate"]), light(), "asleep", {0: 0, 1: 0})
        self.assert_rooms(home().mended(["plnk"]), light(), "asleep", {0: 0, 1: 0, 2: 1})

    def test_by_parameter_names(self):
        self.assertEqual(unheard(first="asleep", sleeper=light(), house=home()), (0, 1, 2))
        self.assertEqual(fewest(room=2, first="asleep", sleeper=light(), house=home()), 1)
        self.assertEqual(play(home(), light(), way(room=2, first="asleep", sleeper=light(), house=home())).ticks, 1)

    def test_the_same_calls_again(self):
        house, sleeper = home(), light()
        for _ in range(3):
            self.assert_rooms(house, sleeper, "asleep", {0: 0, 1: 0, 2: 1})
            self.assert_rooms(house, sleeper_of({"gate": "loud"}), "asleep", {0: 0})
        self.assertEqual((house, sleeper), (home(), light()))
        self.assertEqual(way(house, sleeper, "asleep", 2), way(house, sleeper, "asleep", 2))


class Small(GuestsCase):
    def test_a_house_of_one_room(self):
        for first in FIRSTS:
            for house in (House(1, []), House(1, (), [(0, "gate")], [0])):
                self.assert_rooms(house, light(), first, {0: 0})

    def test_a_house_without_doors(self):
        for first in FIRSTS:
            self.assert_rooms(House(4, [], [(0, "plnk"), (2, "gate")]), light(), first, {0: 0})

    def test_rooms_that_no_door_leads_to(self):
        house = House(5, [(0, 1, None), (3, 4, None)])
        for first in FIRSTS:
            self.assert_rooms(house, light(), first, {0: 0, 1: 0})

    def test_the_street_takes_no_tick_and_somebody_is_in_it(self):
        for first in FIRSTS:
            self.assertEqual(fewest(home(), light(), first, 0), 0)
            self.assertGreaterEqual(way(home(), light(), first, 0).guests, 1)
            self.assert_way(home(), light(), first, 0, 0)

    def test_no_noise_at_all(self):
        house = House(5, [(0, 1, None), (2, 1, None), (3, 2, None), (0, 3, None), (4, 2, "zzz")])
        for first in FIRSTS:
            self.assert_rooms(house, light(), first, {0: 0, 1: 0, 3: 0, 2: 1, 4: 2})

    def test_each_sort_at_a_door_and_at_a_floor(self):
        for sort, comes in (("faint", True), ("soft", True), ("loud", False), ("sudden", False)):
            best = {0: 0, 1: 0} if comes else {0: 0}
            self.assert_rooms(House(2, [(0, 1, "a")]), sleeper_of({"a": sort}), "asleep", best)
            self.assert_rooms(House(2, [(1, 0, None)], [(1, "a")]), sleeper_of({"a": sort}), "asleep", best)

    def test_the_quieter_of_two_doors(self):
        house = House(2, [(0, 1, "a"), (1, 0, None)])
        self.assert_rooms(house, sleeper_of({"a": "loud"}), "asleep", {0: 0, 1: 0})
        self.assert_rooms(House(2, [(0, 1, "a"), (1, 0, "b")]), sleeper_of({"a": "loud", "b": "sudden"}), "asleep",
                          {0: 0})

    def test_beyond_the_limits(self):
        doors = [(room, room + 1, "drip" if room % 2 else None) for room in range(8)]
        sleeper = Sleeper([(name, "faint") for name in ("drip", "a", "b", "c", "d", "e", "f")], 9, 8, 4, "again")
        self.assert_rooms(House(9, doors), sleeper, "asleep", {0: 0, **{room: room - 1 for room in range(1, 9)}})


class Together(GuestsCase):
    def test_a_soft_noise_ahead_of_a_sudden_one(self):
        # The floor of room 2 wakes, unless somebody else went through the gate before.
        house = House(3, [(0, 1, "gate"), (0, 2, None)], [(2, "plnk")])
        self.assert_rooms(house, light(), "asleep", {0: 0, 1: 0, 2: 0})
        self.assertGreaterEqual(way(house, light(), "asleep", 2).guests, 2)
        self.assert_rooms(house.mended(["gate"]), light(), "asleep", {0: 0, 1: 0})

    def test_a_helper_waits_for_the_right_tick(self):
        doors = [(0, 1, "gate"), (0, 2, None), (2, 3, None), (3, 4, None)]
        for stir in (1, 2, 3):
            sleeper = Sleeper([("gate", "soft"), ("plnk", "sudden")], stir, 1, 1, "again")
            house = House(5, doors, [(4, "plnk")])
            self.assert_rooms(house, sleeper, "asleep", {0: 0, 1: 0, 2: 0, 3: 1, 4: 2})
            self.assertGreaterEqual(way(house, sleeper, "asleep", 4).guests, 2)

    def test_stirring_lasts_long_enough_or_not(self):
        # One must go through the gate to come to the plank at all.
        house = House(4, [(0, 1, "gate"), (1, 2, None), (2, 3, None)], [(3, "plnk")])
        for stir in range(1, 5):
            sleeper = Sleeper([("gate", "soft"), ("plnk", "sudden")], stir, 1, 1, "again")
            best = {room: ticks for room, ticks in {0: 0, 1: 0, 2: 1, 3: 2}.items() if ticks < stir}
            self.assert_rooms(house, sleeper, "asleep", best)

    def test_a_helper_sees_to_it_behind_the_gate(self):
        # Behind the gate somebody can wait for another one to make the gate's noise again.
        house = House(4, [(0, 1, None), (1, 2, None), (2, 3, None), (1, 0, "gate")], [(3, "plnk")])
        sleeper = Sleeper([("gate", "soft"), ("plnk", "sudden")], 1, 1, 1, "again")
        self.assert_rooms(house, sleeper, "asleep", {0: 0, 1: 0, 2: 1, 3: 2})

    def test_a_loud_noise_to_one_who_stirs(self):
        house = House(3, [(0, 1, "gate"), (0, 2, "bang")])
        self.assert_rooms(house, sleeper_of({"gate": "soft", "bang": "loud"}), "asleep", {0: 0, 1: 0})

    def test_helpers_keep_the_sleeper_dozing(self):
        doors = [(0, 1, "bang"), (0, 2, "crk"), (2, 3, "crk"), (3, 4, "crk")]
        sorts = {"bang": "loud", "crk": "sudden"}
        for loud in RULES:
            best = {0: 0, 2: 0, 3: 1}
            if loud != "wake":
                best[1] = 0
            if loud == "again":
                best[4] = 2
            self.assert_rooms(House(5, doors), sleeper_of(sorts, loud=loud), "dozing", best)
        house = House(5, doors[1:])
        self.assert_rooms(house, sleeper_of(sorts, loud="again"), "dozing", {0: 0, 2: 0, 3: 1})


class Waiting(GuestsCase):
    def test_faint_steps(self):
        for near in (1, 2):
            sleeper = sleeper_of({"a": "faint", "b": "faint"}, near=near)
            house = House(4, [(0, 1, "a"), (1, 2, "b"), (2, 3, "a")])
            self.assert_rooms(house, sleeper, "asleep", {0: 0, 1: 0, 2: near + 1, 3: 2 * near + 2})
            self.assert_rooms(House(3, [(0, 1, "a"), (1, 2, "a")]), sleeper, "asleep", {0: 0, 1: 0, 2: 1})

    def test_two_faint_noises_of_one_step(self):
        sleeper = sleeper_of({"a": "faint", "b": "faint"})
        self.assert_rooms(House(2, [(0, 1, "a")], [(1, "b")]), sleeper, "asleep", {0: 0})
        self.assert_rooms(House(2, [(0, 1, "a")], [(1, "a")]), sleeper, "asleep", {0: 0, 1: 0})
        self.assert_rooms(House(2, [(0, 1, "a")], [(1, "b")]), sleeper, "dozing", {0: 0, 1: 0})

    def test_two_at_once_by_faint_doors(self):
        # Either room can be come to at once, but not one behind the other in the same tick.
        house = House(3, [(0, 1, "a"), (0, 2, "b")])
        self.assert_rooms(house, sleeper_of({"a": "faint", "b": "faint"}), "asleep", {0: 0, 1: 0, 2: 0})

    def test_a_soft_noise_makes_faint_ones_nothing(self):
        house = House(4, [(0, 1, "a"), (1, 2, "b"), (0, 3, "gate")])
        sleeper = sleeper_of({"a": "faint", "b": "faint", "gate": "soft"}, near=2)
        self.assert_rooms(house, sleeper, "asleep", {0: 0, 1: 0, 2: 1, 3: 0})

    def test_while_somebody_still_dozes(self):
        doors = [(0, 1, "bang"), (1, 2, "bang"), (2, 3, "bang"), (3, 4, "bang")]
        bang = {"bang": "loud"}
        for doze in range(1, 4):
            late = {0: 0, **{room: room - 1 for room in range(1, doze + 1)}}
            self.assert_rooms(House(5, doors), sleeper_of(bang, doze=doze, loud="nothing"), "dozing", late)
            self.assert_rooms(House(5, doors), sleeper_of(bang, doze=doze, loud="wake"), "dozing", {0: 0})
            every = late if doze == 1 else {0: 0, 1: 0, 2: 1, 3: 2, 4: 3}
            self.assert_rooms(House(5, doors), sleeper_of(bang, doze=doze, loud="again"), "dozing", every)
            self.assert_rooms(House(5, doors), sleeper_of(bang, doze=doze), "asleep", {0: 0})
            self.assert_rooms(House(5, doors), sleeper_of(bang, doze=doze), "up", {0: 0, 1: 0, 2: 1, 3: 2, 4: 3})

    def test_a_soft_noise_as_soon_as_dozing_is_over(self):
        # Somebody comes to room 1 while the gate is not heard; behind the tick it must be heard ahead of the plank.
        house = House(3, [(0, 1, "gate"), (1, 2, "plnk")])
        sleeper = sleeper_of({"gate": "soft", "plnk": "sudden"}, stir=1, doze=1)
        self.assert_rooms(house, sleeper, "dozing", {0: 0, 1: 0, 2: 1})
        self.assertGreaterEqual(way(house, sleeper, "dozing", 2).guests, 2)
        self.assert_rooms(house, sleeper, "asleep", {0: 0, 1: 0})

    def test_each_first(self):
        house = House(3, [(0, 1, "crk"), (1, 2, "crk")])
        for first, best in (("asleep", {0: 0}), ("dozing", {0: 0, 1: 0}), ("up", {0: 0, 1: 0, 2: 1})):
            self.assert_rooms(house, sleeper_of({"crk": "sudden"}, doze=1), first, best)


class AgainstASearch(GuestsCase):
    def assert_as_searched(self, house, sleeper, first, least):
        """As a search with as many guests as the ways need, and at least so many."""
        rooms = unheard(house, sleeper, first)
        guests = max([least] + [way(house, sleeper, first, room).guests for room in rooms])
        self.assert_rooms(house, sleeper, first, searched(house, sleeper, first, guests))

    def test_small_houses(self):
        for house, sleeper, first in small_nights(11, 600):
            self.assert_as_searched(house, sleeper, first, 2)

    def test_more_guests(self):
        for house, sleeper, first in small_nights(12, 150):
            self.assert_as_searched(house, sleeper, first, 3)

    def test_helpers(self):
        for house, sleeper, first in helped_nights(14, 400):
            self.assert_as_searched(house, sleeper, first, 2)
        for house, sleeper, first in helped_nights(15, 60):
            self.assert_as_searched(house, sleeper, first, 3)

    def test_four_rooms(self):
        chance = random.Random(13)
        names = ["a", "b", "c", "d"]
        for _ in range(150):
            house = small_house(chance, names, 4, chance.randint(3, 6))
            self.assert_as_searched(house, small_sleeper(chance, names), chance.choice(("asleep", "dozing")), 2)


if __name__ == "__main__":
    unittest.main()
