"""Tests of hushsteps.times, point [17], and of [1], [2], [3] as far as they speak of times."""

import unittest

from hushsteps.guests import unheard
from hushsteps.houses import House
from hushsteps.nurses import sure
from hushsteps.sleepers import Sleeper
from hushsteps.times import greatest_stir, least_stir
from samples import FIRSTS, hard_errands, helped_nights, home, light, small_errands, small_nights


def stirring(sleeper, stir):
    """The sleeper with another time of stirring."""
    words = str(sleeper).split(" ")
    return Sleeper.read(" ".join(["stir", str(stir)] + words[2:]))


class TimesCase(unittest.TestCase):
    def assert_least(self, wanted, house, sleeper, slow, start, goal):
        text = str(sleeper)
        told = least_stir(house, sleeper, slow, start, goal)
        self.assertEqual(told, wanted, (str(house), text, slow, start, goal))
        self.assertIsNot(type(told), bool)
        self.assertEqual(str(sleeper), text)
        good = [sure(house, stirring(sleeper, stir), slow, start, goal) for stir in range(1, 6)]
        self.assertEqual(good, [told is not None and stir >= told for stir in range(1, 6)])

    def assert_greatest(self, wanted, house, sleeper, first, room):
        text = str(sleeper)
        told = greatest_stir(house, sleeper, first, room)
        self.assertEqual(told, wanted, (str(house), text, first, room))
        self.assertIsNot(type(told), bool)
        self.assertEqual(str(sleeper), text)
        kept = [room not in unheard(house, stirring(sleeper, stir), first) for stir in range(1, 6)]
        self.assertEqual(kept, [told is not None and stir <= told for stir in range(1, 6)])


class Examples(TimesCase):
    def test_as_in_the_document(self):
        self.assert_least(2, home(), light(), 0, (0, "asleep"), (2, "up"))
        self.assert_least(4, home(), light(), 1, (0, "asleep"), (2, "up"))
        self.assert_greatest(1, home(), light(), "asleep", 2)

    def test_by_parameter_names(self):
        self.assertEqual(least_stir(goal=(2, "up"), start=(0, "asleep"), slow=1, sleeper=light(), house=home()), 4)
        self.assertEqual(greatest_stir(room=2, first="asleep", sleeper=light(), house=home()), 1)

    def test_the_sleepers_own_time_does_not_matter(self):
        for stir in range(1, 8):
            sleeper = stirring(light(), stir)
            self.assert_least(2, home(), sleeper, 0, (0, "asleep"), (2, "up"))
            self.assert_greatest(1, home(), sleeper, "asleep", 2)
            self.assertEqual(sleeper.stir, stir)

    def test_the_same_calls_again(self):
        house, sleeper = home(), light()
        for _ in range(2):
            self.assert_least(2, house, sleeper, 0, (0, "asleep"), (2, "up"))
            self.assert_greatest(1, house, sleeper, "asleep", 2)
            self.assert_greatest(None, house, sleeper, "up", 2)
        self.assertEqual((house, sleeper), (home(), light()))


class Edges(TimesCase):
    def test_no_time_is_enough(self):
        for slow in range(3):
            self.assert_least(None, House(2, [], [], [0]), light(), slow, (0, "asleep"), (1, "up"))
            self.assert_least(None, House(2, [(0, 1, "plnk")], [], [1]), light(), slow, (0, "asleep"), (1, "up"))
            self.assert_least(None, House(2, [(0, 1, "gate")]), light(), slow, (0, "asleep"), (1, "asleep"))

    def test_each_least_time(self):
        # So many rooms to go through while the sleeper stirs.
        for rooms in range(1, 8):
            doors = [(0, 1, "gate")] + [(room, room + 1, None) for room in range(1, rooms)]
            house = House(rooms + 1, doors, [], [rooms])
            wanted = rooms if rooms <= 5 else None
            self.assert_least(wanted, house, light(), 0, (0, "asleep"), (rooms, "up"))

    def test_any_time_is_enough(self):
        for slow in range(3):
            self.assert_least(1, home(), light(), slow, (0, "up"), (2, "up"))
            self.assert_least(1, home(), light(), slow, (0, "asleep"), (0, "asleep"))

    def test_no_time_keeps_the_room(self):
        for first in FIRSTS:
            self.assert_greatest(None, home(), light(), first, 0)
            self.assert_greatest(None, home(), light(), first, 1)
        self.assert_greatest(None, home(), light(), "up", 2)
        self.assert_greatest(None, home(), light(), "dozing", 2)

    def test_each_greatest_time(self):
        # The floor of the last room wakes one who does not stir any more.
        for rooms in range(2, 9):
            doors = [(0, 1, "gate")] + [(room, room + 1, None) for room in range(1, rooms)]
            house = House(rooms + 1, doors, [(rooms, "plnk")])
            self.assert_greatest(min(rooms - 1, 5), house, light(), "asleep", rooms)

    def test_any_time_keeps_the_room(self):
        self.assert_greatest(5, home().mended(["gate"]), light(), "asleep", 2)
        self.assert_greatest(5, House(3, [(0, 1, None)]), light(), "asleep", 2)
        self.assert_greatest(5, home(), light(), "asleep", 3)


class SmallHouses(TimesCase):
    def assert_errands(self, errands):
        told = []
        for house, sleeper, slow, start, goal in errands:
            good = [stir for stir in range(1, 6) if sure(house, stirring(sleeper, stir), slow, start, goal)]
            told.append(min(good, default=None))
            self.assert_least(told[-1], house, sleeper, slow, start, goal)
        return set(told)

    def test_nurses(self):
        told = self.assert_errands(small_errands(51, 300)) | self.assert_errands(hard_errands(52, 200))
        self.assertGreaterEqual(told, {None, 1, 2, 3})

    def test_guests(self):
        told = []
        for nights in (small_nights(53, 150), helped_nights(54, 100)):
            for house, sleeper, first in nights:
                for room in range(house.rooms):
                    kept = [stir for stir in range(1, 6) if room not in unheard(house, stirring(sleeper, stir), first)]
                    told.append(max(kept, default=None))
                    self.assert_greatest(told[-1], house, sleeper, first, room)
        self.assertGreaterEqual(set(told), {None, 1, 5})


if __name__ == "__main__":
    unittest.main()
