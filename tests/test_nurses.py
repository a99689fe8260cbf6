"""Tests of hushsteps.nurses, points [14] and [15], and of [1], [2], [3] as far as they speak of nurses."""

import unittest

from hushsteps.houses import House
from hushsteps.nurses import bar, bar_holds, deeds_needed, plan, plan_holds, sure
from hushsteps.sleepers import Sleeper, first_state
from samples import FIRSTS, RULES, deeds_of, hard_errands, home, light, small_errands, states_of, woken


def sleeper_of(sorts, stir=2, doze=2, near=1, loud="nothing"):
    return Sleeper(list(sorts.items()), stir, doze, near, loud)


def all_places(house, sleeper):
    """All places of a house, whether they are come to or not."""
    return [(room, state, free) for room in range(house.rooms) for state in states_of(sleeper)
            for free in (False, True)]


def reckoned(house, sleeper, slow, start, goal):
    """The least number of deeds, round by round: in each one the places from which one deed more is enough."""
    deeds = {place: deeds_of(house, sleeper, slow, place) for place in all_places(house, sleeper)}
    good = {place for place in deeds if (place[0], place[1][0]) == goal}
    begin = (start[0], first_state(sleeper, start[1]), True)
    rounds = 0
    while begin not in good:
        more = {place for place in deeds if any(good.issuperset(rows) for rows in deeds[place].values())}
        if more <= good:
            return None
        good |= more
        rounds += 1
    return rounds


class NursesCase(unittest.TestCase):
    def assert_needed(self, wanted, house, sleeper, slow, start, goal):
        """That so many deeds are needed, and all that follows from this."""
        errand = (house, sleeper, slow, start, goal)
        shown = (str(house), str(sleeper), slow, start, goal)
        told = deeds_needed(*errand)
        self.assertEqual(told, wanted, shown)
        self.assertIsNot(type(told), bool)
        self.assertIs(sure(*errand), wanted is not None, shown)
        held, barred = plan(*errand), bar(*errand)
        if wanted is None:
            self.assertIsNone(held, shown)
            self.assertIs(bar_holds(*errand, barred), True, shown)
            self.assertIs(plan_holds(*errand, ()), False, shown)
        else:
            self.assertIsNone(barred, shown)
            self.assertIs(plan_holds(*errand, held), True, shown)
            self.assertEqual(max([0] + [rank for place, deed, rank in held]), wanted, shown)
            self.assertIs(bar_holds(*errand, ()), False, shown)


class Examples(NursesCase):
    def test_as_in_the_document(self):
        self.assert_needed(4, home(), light(), 0, (0, "asleep"), (2, "up"))
        self.assert_needed(None, home(), light(), 1, (0, "asleep"), (2, "up"))

    def test_by_parameter_names(self):
        errand = {"goal": (2, "up"), "start": (0, "asleep"), "slow": 0, "sleeper": light(), "house": home()}
        self.assertEqual(deeds_needed(**errand), 4)
        self.assertIs(sure(**errand), True)
        self.assertIs(plan_holds(value=plan(**errand), **errand), True)
        errand["slow"] = 1
        self.assertIs(sure(**errand), False)
        self.assertIs(bar_holds(value=bar(**errand), **errand), True)

    def test_the_same_calls_again(self):
        house, sleeper = home(), light()
        held = plan(house, sleeper, 0, (0, "asleep"), (2, "up"))
        barred = bar(house, sleeper, 1, (0, "asleep"), (2, "up"))
        for _ in range(2):
            self.assert_needed(4, house, sleeper, 0, (0, "asleep"), (2, "up"))
            self.assert_needed(None, house, sleeper, 1, (0, "asleep"), (2, "up"))
            self.assert_needed(0, house, sleeper, 2, (1, "dozing"), (1, "dozing"))
        self.assertEqual(plan(house, sleeper, 0, (0, "asleep"), (2, "up")), held)
        self.assertEqual(bar(house, sleeper, 1, (0, "asleep"), (2, "up")), barred)
        self.assertEqual((house, sleeper), (home(), light()))


class Goals(NursesCase):
    def test_beginning_at_the_goal(self):
        for first in FIRSTS:
            for slow in range(3):
                for room in range(3):
                    self.assert_needed(0, home(), light(), slow, (room, first), (room, first))
                    self.assertEqual(plan(home(), light(), slow, (room, first), (room, first)), ())

    def test_rooms_that_no_door_leads_to(self):
        house = House(3, [(0, 1, None)], [], [0, 1, 2])
        for first in FIRSTS:
            for word in FIRSTS:
                for slow in range(3):
                    self.assert_needed(None, house, light(), slow, (0, first), (2, word))

    def test_a_room_that_the_house_has_not(self):
        self.assert_needed(None, home(), light(), 0, (0, "asleep"), (3, "up"))

    def test_words_that_want_a_cradle(self):
        house = House(2, [(0, 1, None)])
        self.assert_needed(1, house, light(), 2, (0, "asleep"), (1, "asleep"))
        self.assert_needed(1, house, light(), 0, (0, "up"), (1, "up"))
        self.assert_needed(1, house, light(), 0, (0, "dozing"), (1, "dozing"))
        for first, word in (("asleep", "up"), ("asleep", "dozing"), ("up", "asleep"), ("up", "dozing"),
                            ("dozing", "up")):
            self.assert_needed(None, house, light(), 0, (0, first), (1, word))

    def test_waiting_until_dozing_is_over(self):
        house = House(2, [(0, 1, None)])
        for doze in range(1, 6):
            for slow in range(3):
                sleeper = sleeper_of({}, doze=doze)
                self.assert_needed(doze, house, sleeper, slow, (0, "dozing"), (0, "asleep"))
                self.assert_needed(doze + 1, house, sleeper, slow, (0, "dozing"), (1, "asleep"))

    def test_dozing_that_may_be_over(self):
        # A slow door can take so long that the dozing is over.
        house = House(2, [(0, 1, None)])
        for doze in range(1, 4):
            for slow in range(3):
                needed = 1 if slow < doze else None
                self.assert_needed(needed, house, sleeper_of({}, doze=doze), slow, (0, "dozing"), (1, "dozing"))

    def test_asleep_with_a_faint_noise_kept(self):
        house = House(2, [(0, 1, "a")])
        self.assert_needed(1, house, sleeper_of({"a": "faint"}), 0, (0, "asleep"), (1, "asleep"))
        self.assert_needed(1, house, sleeper_of({"a": "faint"}), 2, (0, "asleep"), (1, "asleep"))

    def test_stirring_is_not_asleep(self):
        house = House(2, [(0, 1, "a")])
        for slow in range(3):
            self.assert_needed(None, house, sleeper_of({"a": "soft"}, stir=5), slow, (0, "asleep"), (1, "asleep"))
        self.assert_needed(3, House(2, [(0, 1, "a")], [], [1]), sleeper_of({"a": "soft"}, stir=5, doze=1), 0,
                           (0, "asleep"), (1, "asleep"))

    def test_another_goal_on_the_way(self):
        # Behind the first door she is in the room, but the sleeper is still dozing.
        house = House(2, [(0, 1, None)], [], [1])
        self.assert_needed(2, house, sleeper_of({}), 0, (0, "dozing"), (1, "up"))
        self.assert_needed(1, house, sleeper_of({}), 0, (0, "dozing"), (1, "dozing"))


class Deeds(NursesCase):
    def test_a_second_door_only_behind_a_wait(self):
        house = House(3, [(0, 1, None), (1, 2, None)])
        for slow in range(3):
            for first in ("asleep", "up"):
                self.assert_needed(3, house, light(), slow, (0, first), (2, first))
                self.assert_needed(1, house, light(), slow, (1, first), (2, first))
        self.assert_needed(5, House(4, [(0, 1, None), (2, 1, None), (2, 3, None)]), light(), 0, (0, "up"), (3, "up"))

    def test_doors_either_way_about(self):
        house = House(3, [(1, 0, None), (2, 0, None)])
        for room, other, needed in ((0, 1, 1), (1, 0, 1), (0, 2, 1), (2, 0, 1), (1, 2, 3), (2, 1, 3)):
            self.assert_needed(needed, house, light(), 1, (room, "asleep"), (other, "asleep"))

    def test_humming_wants_a_cradle(self):
        for cradles in ([], [0], [1], [0, 1]):
            house = House(2, [(0, 1, None)], [], cradles)
            needed = 1 if 0 in cradles else None
            self.assert_needed(needed, House(1, [], [], [0] if 0 in cradles else []), light(), 0, (0, "asleep"),
                               (0, "up"))
            in_street = 1 if 0 in cradles else (4 if 1 in cradles else None)
            self.assert_needed(in_street, house, light(), 0, (0, "asleep"), (0, "up"))
            self.assert_needed(2 if cradles else None, house, light(), 0, (0, "asleep"), (1, "up"))

    def test_humming_leaves_her_as_free_as_she_was(self):
        house = House(2, [(0, 1, None)], [], [1])
        # Free: humming, then the door at once. Not free: the door, humming, a wait, the door.
        self.assert_needed(2, house, light(), 0, (1, "asleep"), (0, "up"))
        self.assert_needed(4, house, light(), 0, (0, "asleep"), (0, "up"))
        self.assert_needed(2, house, light(), 0, (0, "asleep"), (1, "up"))

    def test_humming_ends_stirring_in_time(self):
        house = House(2, [(0, 1, "a")], [], [1])
        for stir in range(1, 6):
            for slow in range(3):
                needed = 2 if slow < stir else None
                sleeper = sleeper_of({"a": "soft"}, stir=stir)
                self.assert_needed(needed, house, sleeper, slow, (0, "asleep"), (1, "up"))
                self.assert_needed(needed, house, sleeper, slow, (0, "asleep"), (1, "dozing"))

    def test_who_is_up_minds_no_noise(self):
        house = House(2, [(0, 1, "a")], [(1, "b")])
        sleeper = sleeper_of({"a": "loud", "b": "sudden"})
        for slow in range(3):
            self.assert_needed(1, house, sleeper, slow, (0, "up"), (1, "up"))
            self.assert_needed(None, house, sleeper, slow, (0, "asleep"), (1, "asleep"))

    def test_each_sort_at_a_door_and_at_a_floor(self):
        for sort, needed in (("faint", 1), ("soft", None), ("loud", None), ("sudden", None)):
            sleeper = sleeper_of({"a": sort})
            self.assert_needed(needed, House(2, [(0, 1, "a")]), sleeper, 0, (0, "asleep"), (1, "asleep"))
            self.assert_needed(needed, House(2, [(0, 1, None)], [(1, "a")]), sleeper, 0, (0, "asleep"), (1, "asleep"))
        self.assert_needed(1, House(2, [(0, 1, "a")], [(0, "a")]), sleeper_of({}), 0, (0, "asleep"), (1, "asleep"))

    def test_the_floor_that_she_leaves_makes_no_noise(self):
        house = House(2, [(0, 1, None)], [(0, "a")])
        self.assert_needed(1, house, sleeper_of({"a": "loud"}), 2, (0, "asleep"), (1, "asleep"))
        self.assert_needed(None, house, sleeper_of({"a": "loud"}), 0, (1, "asleep"), (0, "asleep"))


class Outcomes(NursesCase):
    """The ticks between the noise of a door and that of the floor behind it."""

    HOUSE = House(2, [(0, 1, "a")], [(1, "b")], [1])

    def test_stirring_until_the_floor(self):
        for stir in range(1, 5):
            for slow in range(3):
                sleeper = sleeper_of({"a": "soft", "b": "sudden"}, stir=stir)
                self.assert_needed(2 if slow < stir else None, self.HOUSE, sleeper, slow, (0, "asleep"), (1, "up"))

    def test_each_outcome_is_wanted(self):
        sleeper = sleeper_of({"a": "soft", "b": "sudden"}, stir=3)
        for slow in range(3):
            errand = (self.HOUSE, sleeper, slow, (0, "asleep"), (1, "up"))
            entries = [((1, ("stirring", 3 - ticks), False), "hum up", 1) for ticks in range(3)]
            begin = ((0, ("asleep",), True), "door 0", 2)
            for many in range(4):
                self.assertIs(plan_holds(*errand, (begin,) + tuple(entries[:many])), many > slow)
            for at in range(3):
                left = tuple(entries[:at] + entries[at + 1:])
                self.assertIs(plan_holds(*errand, (begin,) + left), at > slow)

    def test_the_dozing_ends_before_the_floor(self):
        for doze in range(1, 4):
            for slow in range(3):
                sleeper = sleeper_of({"b": "sudden"}, doze=doze)
                self.assert_needed(1 if slow < doze else None, self.HOUSE, sleeper, slow, (0, "dozing"), (1, "dozing"))

    def test_the_door_keeps_the_sleeper_dozing(self):
        # With the rule "again" the door itself begins the dozing anew, ahead of the ticks.
        for loud in RULES:
            for doze in range(1, 4):
                for slow in range(3):
                    sleeper = sleeper_of({"a": "loud", "b": "sudden"}, doze=doze, loud=loud)
                    needed = 1 if slow < doze and loud != "wake" else None
                    self.assert_needed(needed, self.HOUSE, sleeper, slow, (0, "dozing"), (1, "dozing"))

    def test_the_floor_keeps_the_sleeper_dozing(self):
        sleeper = sleeper_of({"b": "loud"}, doze=3, loud="again")
        for slow in range(3):
            errand = (self.HOUSE, sleeper, slow, (0, "dozing"), (1, "up"))
            begin = ((0, ("dozing", 3), True), "door 0", 2)
            self.assertIs(plan_holds(*errand, (begin, ((1, ("dozing", 3), False), "hum up", 1))), True)
            self.assertIs(plan_holds(*errand, (begin, ((1, ("dozing", 2), False), "hum up", 1))), False)

    def test_faint_noises_at_the_door_and_on_the_floor(self):
        # Without a tick between them they are near, however slow she can be.
        for slow in range(3):
            sleeper = sleeper_of({"a": "faint", "b": "faint"})
            self.assert_needed(None, self.HOUSE, sleeper, slow, (0, "asleep"), (1, "asleep"))
            same = House(2, [(0, 1, "a")], [(1, "a")])
            self.assert_needed(1, same, sleeper, slow, (0, "asleep"), (1, "asleep"))

    def test_a_kept_noise_is_forgotten_in_the_door(self):
        # Two faint doors: the second one only when the first one is surely forgotten.
        house = House(3, [(0, 1, "a"), (1, 2, "b")])
        for near in (1, 2):
            sleeper = sleeper_of({"a": "faint", "b": "faint"}, near=near)
            for slow in range(3):
                self.assert_needed(near + 3, house, sleeper, slow, (0, "asleep"), (2, "asleep"))

    def test_no_noise_at_all(self):
        for slow in range(3):
            self.assert_needed(2, self.HOUSE.mended(["a", "b"]), light(), slow, (0, "asleep"), (1, "up"))

    def test_beyond_the_limits(self):
        house = House(8, [(room, room + 1, "drip") for room in range(7)], [(7, "crk")], [6])
        sleeper = sleeper_of({"drip": "faint", "crk": "sudden"}, stir=9, doze=9, near=4)
        self.assert_needed(14, house, sleeper, 4, (0, "asleep"), (7, "up"))


class AgainstAReckoning(NursesCase):
    def assert_as_reckoned(self, errands):
        told = []
        for house, sleeper, slow, start, goal in errands:
            told.append(reckoned(house, sleeper, slow, start, goal))
            self.assert_needed(told[-1], house, sleeper, slow, start, goal)
        # Both ways out must have come often, or little is tested.
        self.assertGreater(told.count(None), len(told) // 10)
        self.assertGreater(len([needed for needed in told if needed]), len(told) // 10)
        return told

    def test_small_houses(self):
        self.assert_as_reckoned(small_errands(31, 700))

    def test_four_rooms(self):
        self.assert_as_reckoned(small_errands(32, 250, 4, 6))

    def test_long_ways(self):
        self.assertGreater(max(needed or 0 for needed in self.assert_as_reckoned(hard_errands(33, 500))), 7)

    def test_each_slow_first_and_goal_of_the_document(self):
        for house in (home(), home().mended(["gate"]), home().mended(["plnk"])):
            for slow in range(3):
                for start in [(room, first) for room in range(3) for first in FIRSTS]:
                    for goal in [(room, word) for room in range(3) for word in FIRSTS]:
                        errand = (house, light(), slow, start, goal)
                        self.assert_needed(reckoned(*errand), *errand)

    def test_slower_is_never_better(self):
        for house, sleeper, _, start, goal in small_errands(34, 200):
            for slow in (0, 1):
                if not sure(house, sleeper, slow, start, goal):
                    self.assertIs(sure(house, sleeper, slow + 1, start, goal), False)

    def test_the_tests_own_deeds(self):
        # What the other tests hold the program against.
        deeds = deeds_of(home(), light(), 1, (0, ("asleep",), True))
        self.assertEqual(deeds, {"wait": [(0, ("asleep",), True)],
                                 "door 0": [(1, ("stirring", 2), False), (1, ("stirring", 1), False)]})
        self.assertTrue(woken(deeds_of(home(), light(), 2, (0, ("asleep",), True))["door 0"]))
        self.assertEqual(set(deeds_of(home(), light(), 0, (2, ("up",), False))), {"wait", "hum up", "hum doze"})


if __name__ == "__main__":
    unittest.main()
