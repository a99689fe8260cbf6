"""Tests of hushsteps.boards, point [18], and of [1], [2], [3] as far as they speak of boards."""

import itertools
import random
import unittest

from hushsteps.boards import least_noises, needless, safe_mends
from hushsteps.guests import unheard
from hushsteps.houses import House
from hushsteps.nurses import sure
from hushsteps.sleepers import Sleeper
from samples import FIRSTS, RULES, SORTS, hard_errands, helped_nights, home, light, small_errands, small_nights


def reckoned(house, sleeper, first, room):
    """All least sets of names, each tried by mending all others."""
    names = sorted({door[2] for door in house.doors if door[2]} | {floor[1] for floor in house.floors})
    enough = []
    for many in range(len(names) + 1):
        for chosen in itertools.combinations(names, many):
            kept = house.mended([name for name in names if name not in chosen])
            if room not in unheard(kept, sleeper, first):
                enough.append(chosen)
    return tuple(chosen for chosen in enough if not any(set(part) < set(chosen) for part in enough))


class BoardsCase(unittest.TestCase):
    def assert_least(self, wanted, house, sleeper, first, room):
        text = str(house)
        told = least_noises(house, sleeper, first, room)
        self.assertEqual(told, wanted, (text, str(sleeper), first, room))
        self.assertIs(type(told), tuple)
        self.assertTrue(all(type(chosen) is tuple for chosen in told))
        self.assertEqual(told, tuple(sorted(told, key=lambda chosen: (len(chosen), chosen))))
        self.assertEqual(str(house), text)

    def assert_needless(self, wanted, house, sleeper, first):
        text = str(house)
        told = needless(house, sleeper, first)
        self.assertEqual(told, wanted, (text, str(sleeper), first))
        self.assertIs(type(told), tuple)
        self.assertEqual(str(house), text)

    def assert_safe(self, wanted, house, sleeper, slow, start, goal):
        text = str(house)
        told = safe_mends(house, sleeper, slow, start, goal)
        self.assertEqual(told, wanted, (text, str(sleeper), slow, start, goal))
        self.assertIs(type(told), tuple)
        self.assertEqual(str(house), text)


class Examples(BoardsCase):
    def test_as_in_the_document(self):
        self.assert_least((("plnk",),), home(), light(), "asleep", 2)
        self.assert_needless(("plnk",), home(), light(), "asleep")
        self.assert_safe(("plnk",), home(), light(), 0, (0, "asleep"), (2, "up"))

    def test_by_parameter_names(self):
        self.assertEqual(least_noises(room=2, first="asleep", sleeper=light(), house=home()), (("plnk",),))
        self.assertEqual(needless(first="asleep", sleeper=light(), house=home()), ("plnk",))
        told = safe_mends(goal=(2, "up"), start=(0, "asleep"), slow=0, sleeper=light(), house=home())
        self.assertEqual(told, ("plnk",))

    def test_the_same_calls_again(self):
        house, sleeper = home(), light()
        for _ in range(2):
            self.assert_least((("plnk",),), house, sleeper, "asleep", 2)
            self.assert_least((), house, sleeper, "up", 2)
            self.assert_needless(("plnk",), house, sleeper, "asleep")
            self.assert_safe(("plnk",), house, sleeper, 0, (0, "asleep"), (2, "up"))
        self.assertEqual((house, sleeper), (home(), light()))


class LeastNoises(BoardsCase):
    def test_the_street_is_kept_by_nothing(self):
        for first in FIRSTS:
            self.assert_least((), home(), light(), first, 0)
            self.assert_least((), House(1, [], [(0, "plnk")]), light(), first, 0)

    def test_a_room_that_no_door_leads_to(self):
        for first in FIRSTS:
            self.assert_least(((),), House(3, [(0, 1, "gate")], [(2, "plnk")]), light(), first, 2)
            self.assert_least(((),), House(3, [], []), light(), first, 1)
            self.assert_least(((),), home(), light(), first, 3)

    def test_a_room_that_nothing_keeps(self):
        self.assert_least((), home(), light(), "asleep", 1)
        self.assert_least((), home(), light(), "up", 2)
        self.assert_least((), House(2, [(0, 1, None)]), light(), "asleep", 1)

    def test_one_or_the_other(self):
        house = House(3, [(0, 1, "d"), (1, 2, "a")], [(1, "c"), (2, "b")])
        sleeper = Sleeper([("a", "loud"), ("b", "sudden"), ("c", "loud"), ("d", "sudden")], 1, 1, 1, "again")
        self.assert_least((("a",), ("b",), ("c",), ("d",)), house, sleeper, "asleep", 2)
        self.assert_least((("c",), ("d",)), house, sleeper, "asleep", 1)

    def test_one_at_each_of_two_ways(self):
        house = House(4, [(0, 1, "d"), (1, 3, "b"), (0, 2, "a"), (2, 3, "c")])
        sleeper = Sleeper([(name, "loud") for name in "abcd"], 1, 1, 1, "again")
        self.assert_least((("a", "b"), ("a", "d"), ("b", "c"), ("c", "d")), house, sleeper, "asleep", 3)

    def test_shorter_ones_first(self):
        # The noise "z" alone is enough, or "a" and "b" together at the two doors ahead of it.
        house = House(3, [(0, 1, "b"), (0, 1, "a"), (1, 2, "z")])
        sleeper = Sleeper([(name, "loud") for name in "abz"], 1, 1, 1, "again")
        self.assert_least((("z",), ("a", "b")), house, sleeper, "asleep", 2)

    def test_faint_noises_only_together(self):
        house = House(2, [(0, 1, "b")], [(1, "a")])
        sleeper = Sleeper([("a", "faint"), ("b", "faint")], 1, 1, 1, "again")
        self.assert_least((("a", "b"),), house, sleeper, "asleep", 1)

    def test_all_noises_are_not_always_enough(self):
        # With the gate the plank is not minded; the plank alone keeps the room.
        self.assertIn(2, unheard(home(), light(), "asleep"))
        self.assert_least((("plnk",),), home(), light(), "asleep", 2)

    def test_noises_that_nobody_hears(self):
        house = House(3, [(0, 1, "zzz"), (1, 2, "yyy")], [(2, "plnk")])
        self.assert_least((("plnk",),), house, light(), "asleep", 2)
        self.assert_least((), house, light(), "asleep", 1)

    def test_against_all_sets(self):
        told = []
        for nights in (small_nights(61, 200, 4, 4), helped_nights(62, 60)):
            for house, sleeper, first in nights:
                for room in range(house.rooms):
                    told.append(reckoned(house, sleeper, first, room))
                    self.assert_least(told[-1], house, sleeper, first, room)
        self.assertTrue(any(len(sets) > 1 for sets in told))
        self.assertTrue(any(len(chosen) > 1 for sets in told for chosen in sets))
        self.assertTrue({(), ((),)} <= set(told))

    def test_against_all_sets_of_four_names(self):
        chance = random.Random(63)
        for _ in range(60):
            pairs = [(0, 1), (1, 2), (2, 3), (0, 2), (1, 3)]
            doors = [pair + (chance.choice("abcd"),) for pair in pairs if chance.random() < 0.8]
            house = House(4, doors, [(room, chance.choice("abcd")) for room in (1, 2, 3) if chance.random() < 0.6])
            sorts = [(name, chance.choice(SORTS)) for name in "abcd"]
            sleeper = Sleeper(sorts, chance.randint(1, 3), chance.randint(1, 3), 1, chance.choice(RULES))
            for room in (2, 3):
                self.assert_least(reckoned(house, sleeper, "asleep", room), house, sleeper, "asleep", room)

    def test_beyond_the_limits(self):
        house = House(6, [(room, room + 1, "abcde"[room]) for room in range(5)])
        sleeper = Sleeper([(name, "loud") for name in "abcde"], 1, 1, 1, "again")
        self.assert_least((("a",), ("b",), ("c",), ("d",), ("e",)), house, sleeper, "asleep", 5)


class Needless(BoardsCase):
    def test_no_noises(self):
        for first in FIRSTS:
            self.assert_needless((), House(3, [(0, 1, None)]), light(), first)

    def test_a_noise_that_nobody_hears(self):
        house = House(3, [(0, 1, "zzz"), (1, 2, "plnk")], [(0, "yyy")])
        self.assert_needless(("yyy", "zzz"), house, light(), "asleep")
        self.assert_needless(("plnk", "yyy", "zzz"), house, light(), "up")

    def test_each_alone_but_not_both(self):
        house = House(2, [(0, 1, "a")], [(1, "b")])
        sleeper = Sleeper([("a", "loud"), ("b", "loud")], 1, 1, 1, "again")
        self.assert_needless(("a", "b"), house, sleeper, "asleep")
        self.assert_needless((), house.mended(["a"]), sleeper, "asleep")

    def test_a_noise_that_helps_or_keeps(self):
        self.assert_needless(("plnk",), home(), light(), "asleep")
        self.assert_needless((), home().mended(["gate"]), light(), "asleep")
        self.assert_needless(("gate",), home().mended(["plnk"]), light(), "asleep")

    def test_against_each_mended_alone(self):
        told = []
        for nights in (small_nights(64, 300, 4, 5), helped_nights(65, 100)):
            for house, sleeper, first in nights:
                rooms = unheard(house, sleeper, first)
                wanted = [name for name in house.noises if unheard(house.mended([name]), sleeper, first) == rooms]
                told.append(len(house.noises) - len(wanted))
                self.assert_needless(tuple(wanted), house, sleeper, first)
        self.assertTrue({0, 1, 2} <= set(told))


class SafeMends(BoardsCase):
    def test_no_noises(self):
        self.assert_safe((), House(2, [(0, 1, None)], [], [1]), light(), 0, (0, "asleep"), (1, "up"))

    def test_beginning_at_the_goal(self):
        self.assert_safe(("gate", "plnk"), home(), light(), 2, (1, "asleep"), (1, "asleep"))

    def test_no_mending_is_enough(self):
        self.assert_safe((), House(2, [(0, 1, "a")]), light(), 0, (0, "asleep"), (1, "up"))
        self.assert_safe((), House(2, [], [(0, "a"), (1, "b")], [1]), light(), 0, (0, "up"), (1, "up"))

    def test_a_noise_that_must_go_or_stay(self):
        house = House(2, [(0, 1, "bang")], [(1, "drip")], [1])
        sleeper = Sleeper([("bang", "loud")], 1, 1, 1, "again")
        self.assert_safe(("bang",), house, sleeper, 1, (0, "asleep"), (1, "up"))
        self.assert_safe(("bang", "drip"), house, sleeper, 1, (0, "up"), (1, "up"))
        self.assert_safe(("plnk",), home(), light(), 0, (0, "asleep"), (2, "up"))
        self.assert_safe((), home(), light(), 1, (0, "asleep"), (2, "up"))

    def test_against_each_mended_alone(self):
        told = []
        for errands in (small_errands(66, 300, 4, 5), hard_errands(67, 200)):
            for house, sleeper, slow, start, goal in errands:
                wanted = [name for name in house.noises if sure(house.mended([name]), sleeper, slow, start, goal)]
                told.append((len(wanted) > 0, len(wanted) < len(house.noises)))
                self.assert_safe(tuple(wanted), house, sleeper, slow, start, goal)
        self.assertIn((True, True), told)


if __name__ == "__main__":
    unittest.main()
