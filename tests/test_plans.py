"""Tests of plans and bars, point [16], and of [1], [2], [3] as far as they speak of them."""

import random
import unittest

from hushsteps.houses import House
from hushsteps.nurses import bar, bar_holds, deeds_needed, plan, plan_holds, sure
from hushsteps.sleepers import Sleeper, first_state
from samples import (
    FIRSTS, any_values, deeds_of, deep, hard_errands, home, light, objects, small_errands, states_of, woken,
)

# The document's house and sleeper: with slow 0 she is sure to hum "up" at the cradle, with slow 1 she is not.
START = (0, "asleep")
GOAL = (2, "up")
BEGIN = (0, ("asleep",), True)
WRITTEN = (
    (BEGIN, "door 0", 4),
    ((1, ("stirring", 2), False), "wait", 3),
    ((1, ("stirring", 1), True), "door 1", 2),
    ((2, ("stirring", 1), False), "hum up", 1),
)
# A house with cradles in all rooms, whose doors and floors make no noise, and one with a sleeper of every sort.
CALM = House(3, [(0, 1, None), (1, 2, None)], [], [0, 1])
HEARER = Sleeper([("bang", "loud"), ("crk", "sudden"), ("drip", "faint"), ("hiss", "soft")], 2, 3, 1, "again")


def is_goal(goal, place):
    return (place[0], place[1][0]) == goal


def beginning(sleeper, start):
    return (start[0], first_state(sleeper, start[1]), True)


def is_plan(house, sleeper, slow, start, goal, value):
    """Whether entries of the right form, each place once, are a plan."""
    ranks = {place: rank for place, deed, rank in value}
    begin = beginning(sleeper, start)
    if begin not in ranks and not is_goal(goal, begin):
        return False
    for place, deed, rank in value:
        outcomes = deeds_of(house, sleeper, slow, place).get(deed)
        if outcomes is None or woken(outcomes):
            return False
        if not all(is_goal(goal, behind) or ranks.get(behind, rank) < rank for behind in outcomes):
            return False
    return True


def is_bar(house, sleeper, slow, start, goal, value):
    """Whether unlike places of the right form are a bar."""
    if beginning(sleeper, start) not in value or any(is_goal(goal, place) for place in value):
        return False
    return all(woken(outcomes) or any(place in value for place in outcomes)
               for place in value for outcomes in deeds_of(house, sleeper, slow, place).values())


def no_states():
    """Any values that are no states in which HEARER can be, or that are woken."""
    return [
        "up", ["up"], ("woken",), ("up", 0), ("Up",), ("",), (None,), (0,), (("up",),), ("doze",), ("dozing",),
        ("dozing", 0), ("dozing", 4), ("dozing", -1), ("dozing", True), ("dozing", "1"), ("dozing", 1, 1),
        ["dozing", 1], ("stirring",), ("stirring", 0), ("stirring", 3), ("stirring", True), ("stirring", [1]),
        ["stirring", 1], ("asleep", "drip"), ("asleep", "drip", 2), ("asleep", "drip", -1), ("asleep", "drip", False),
        ("asleep", "drip", "0"), ("asleep", "bang", 0), ("asleep", "crk", 0), ("asleep", "hiss", 0),
        ("asleep", "zzz", 0), ("asleep", None, 0), ("asleep", ["drip"], 0), ("asleep", ("drip",), 0), ["asleep"],
        ["asleep", "drip", 0], ("up", "drip", 0),
    ] + any_values()


def no_rooms():
    """Any values that are no rooms of a house of three."""
    return [3, -1, 10 ** 6, True, False, "0", "", None, (0,), [0], (), []] + objects()


def no_bools():
    """Any values that are not bools."""
    return [0, 1, 2, None, "True", "", (), [], (True,), [True], deep(True)] + objects()


def no_places():
    """Any values that are no places of a house of three rooms with HEARER."""
    state = ("asleep",)
    wrong = [(), (0,), (0, state), (0, state, True, True), [0, state, True], (state, 0, True), (0, True, state)]
    wrong += [(room, state, True) for room in no_rooms()]
    wrong += [(0, held, True) for held in no_states()]
    wrong += [(0, state, free) for free in no_bools()]
    return wrong + any_values()


class PlansCase(unittest.TestCase):
    def assert_plan(self, wanted, house, sleeper, slow, start, goal, value):
        told = plan_holds(house, sleeper, slow, start, goal, value)
        self.assertIs(told, wanted, (str(house), str(sleeper), slow, start, goal, value))

    def assert_bar(self, wanted, house, sleeper, slow, start, goal, value):
        told = bar_holds(house, sleeper, slow, start, goal, value)
        self.assertIs(told, wanted, (str(house), str(sleeper), slow, start, goal, value))

    def assert_written(self, wanted, value):
        self.assert_plan(wanted, home(), light(), 0, START, GOAL, value)


class Written(PlansCase):
    """Of a plan that is written out."""

    def test_the_plan_itself(self):
        self.assert_written(True, WRITTEN)
        self.assert_written(True, WRITTEN[::-1])
        self.assertEqual(sorted(plan(home(), light(), 0, START, GOAL)), sorted(WRITTEN))

    def test_other_ranks_that_fall(self):
        for ranks in ((5, 3, 2, 1), (100, 90, 80, 70), (999999, 3, 2, 1), (4, 3, 2, 1)):
            self.assert_written(True, tuple((place, deed, rank) for (place, deed, _), rank in zip(WRITTEN, ranks)))

    def test_ranks_that_do_not_fall(self):
        for ranks in ((3, 3, 2, 1), (4, 2, 2, 1), (4, 3, 1, 1), (1, 2, 3, 4), (1, 1, 1, 1), (4, 4, 4, 4), (2, 3, 2, 1)):
            self.assert_written(False, tuple((place, deed, rank) for (place, deed, _), rank in zip(WRITTEN, ranks)))

    def test_ranks_of_another_form(self):
        for at, (place, deed, rank) in enumerate(WRITTEN):
            for wrong in [0, -1, -4, True, False, None, str(rank), "", (rank,), [rank], deep(rank)] + objects():
                self.assert_written(False, WRITTEN[:at] + ((place, deed, wrong),) + WRITTEN[at + 1:])

    def test_true_in_the_place_of_one(self):
        self.assertEqual(WRITTEN[3][2], True)
        self.assert_written(False, WRITTEN[:3] + ((WRITTEN[3][0], "hum up", True),))

    def test_an_entry_left_out(self):
        for at in range(4):
            self.assert_written(False, WRITTEN[:at] + WRITTEN[at + 1:])
        self.assert_written(False, ())

    def test_a_place_twice(self):
        for place, deed, rank in WRITTEN:
            for other in ((place, deed, rank), (place, deed, rank + 10), (place, "wait", 10)):
                self.assert_written(False, WRITTEN + (other,))
                self.assert_written(False, (other,) + WRITTEN)

    def test_a_list(self):
        self.assert_written(False, list(WRITTEN))
        self.assert_written(False, tuple(list(entry) for entry in WRITTEN))
        self.assert_written(False, (WRITTEN,))
        self.assert_written(False, (WRITTEN, WRITTEN))
        self.assert_written(False, [list(entry) for entry in WRITTEN])

    def test_deeds_that_cannot_be_done_there(self):
        place, deed, rank = WRITTEN[1]
        for wrong in ("door 0", "door 1", "door 2", "hum up", "hum doze"):
            self.assert_written(False, WRITTEN[:1] + ((place, wrong, rank),) + WRITTEN[2:])
        for at in (0, 2, 3):
            place, deed, rank = WRITTEN[at]
            for wrong in ("door 0", "door 1", "door 2", "hum up", "hum doze", "wait"):
                if wrong != deed:
                    self.assert_written(False, WRITTEN[:at] + ((place, wrong, rank),) + WRITTEN[at + 1:])

    def test_deeds_of_another_form(self):
        wrong = ["", " ", "wait ", " wait", "Wait", "waits", "tick", "door", "door ", "door 00", "door 01", "door -1",
                 "door +0", "door  0", "door 0 ", " door 0", "door0", "door 0\n", "door 1.0", "Door 0", "hum", "hum ",
                 "hum  up", "hum up ", "hum 0 up", "hum down", "hum asleep", "hum dozing", "step 0 0", "0", "up"]
        for at, (place, deed, rank) in enumerate(WRITTEN):
            for value in wrong + any_values() + [(deed,), [deed], deep(deed)]:
                self.assert_written(False, WRITTEN[:at] + ((place, value, rank),) + WRITTEN[at + 1:])

    def test_a_slower_nurse(self):
        for slow in (1, 2):
            self.assert_plan(False, home(), light(), slow, START, GOAL, WRITTEN)

    def test_another_start_or_goal(self):
        for start in [(room, first) for room in range(3) for first in FIRSTS]:
            for goal in [(room, word) for room in range(3) for word in FIRSTS]:
                wanted = is_plan(home(), light(), 0, start, goal, WRITTEN)
                self.assert_plan(wanted, home(), light(), 0, start, goal, WRITTEN)
        self.assert_plan(False, home(), light(), 0, (0, "dozing"), GOAL, WRITTEN)
        self.assert_plan(False, home(), light(), 0, START, (2, "dozing"), WRITTEN)
        self.assert_plan(False, home(), light(), 0, START, (1, "up"), WRITTEN)

    def test_another_house_or_sleeper(self):
        self.assert_plan(False, home().mended(["gate"]), light(), 0, START, GOAL, WRITTEN)
        self.assert_plan(True, home().mended(["plnk"]), light(), 0, START, GOAL, WRITTEN)
        self.assert_plan(False, House(3, home().doors, home().floors, [1]), light(), 0, START, GOAL, WRITTEN)
        self.assert_plan(False, House(3, home().doors[::-1], home().floors, [2]), light(), 0, START, GOAL, WRITTEN)
        louder = Sleeper([("gate", "loud")], 2, 3, 1, "again")
        self.assert_plan(False, home(), louder, 0, START, GOAL, WRITTEN)
        longer = Sleeper([("gate", "soft"), ("plnk", "sudden")], 3, 3, 1, "again")
        self.assert_plan(False, home(), longer, 0, START, GOAL, WRITTEN)

    def test_an_outcome_that_is_woken(self):
        # The plank wakes one who sleeps; nothing else is wrong with the entry.
        house = home().mended(["gate"])
        value = ((BEGIN, "door 0", 4), ((1, ("asleep",), False), "wait", 3), ((1, ("asleep",), True), "door 1", 2),
                 ((2, ("asleep",), False), "hum up", 1))
        self.assert_plan(True, house.mended(["plnk"]), light(), 0, START, GOAL, value)
        self.assert_plan(False, house, light(), 0, START, GOAL, value)
        self.assert_written(False, WRITTEN + (((1, ("asleep",), True), "door 1", 3),))
        self.assert_written(False, WRITTEN + (((1, ("stirring", 1), False), "wait", 3),))


class FurtherEntries(PlansCase):
    """Entries that are not come to can stand in a plan, if they keep to its words."""

    def test_one_that_leads_on(self):
        self.assert_written(True, WRITTEN + (((2, ("asleep",), False), "hum up", 1),))
        self.assert_written(True, WRITTEN + (((1, ("up",), True), "door 1", 1),))
        self.assert_written(True, WRITTEN + (((1, ("up",), False), "wait", 2), ((1, ("up",), True), "door 1", 1)))

    def test_one_that_leads_nowhere(self):
        self.assert_written(False, WRITTEN + (((1, ("up",), False), "wait", 7),))
        self.assert_written(False, WRITTEN + (((2, ("asleep",), False), "wait", 7),))
        self.assert_written(False, WRITTEN + (((0, ("up",), True), "wait", 7),))

    def test_the_goal_itself(self):
        # Nothing says that the goal can't have an entry; what leads to it needs no lesser rank.
        goal = (2, ("up",), False)
        self.assert_written(True, WRITTEN + ((goal, "wait", 50),))
        self.assert_written(True, WRITTEN + ((goal, "hum up", 50), ((2, ("up",), True), "hum up", 1)))
        self.assert_written(False, WRITTEN + ((goal, "hum doze", 50),))

    def test_beginning_at_the_goal(self):
        at = (2, "up")
        begin = (2, ("up",), True)
        self.assert_plan(True, home(), light(), 0, at, GOAL, ())
        self.assert_plan(True, home(), light(), 0, at, GOAL, ((begin, "wait", 1),))
        self.assert_plan(True, home(), light(), 0, at, GOAL, WRITTEN)
        self.assert_plan(False, home(), light(), 0, at, GOAL, ((begin, "hum doze", 1),))
        self.assert_plan(False, home(), light(), 0, at, GOAL, [])
        self.assert_plan(False, home(), light(), 0, at, GOAL, ((begin, "wait", 0),))

    def test_many_entries(self):
        errand = (CALM, HEARER, 2, (0, "asleep"), (2, "asleep"))
        value = plan(*errand)
        for _ in range(2):
            self.assert_plan(True, *errand, value)
        self.assert_plan(False, *errand, value * 100)
        self.assert_plan(False, *errand, value + (((1, ("up",), True), "wait", 9),) * 4000)


class PlanForms(PlansCase):
    """A nurse begins at the goal here, so that any entry by itself decides."""

    def test_good_places(self):
        for state in states_of(HEARER):
            for room in (0, 1):
                for free in (False, True):
                    value = (((room, state, free), "hum doze", 1),)
                    self.assert_plan(True, CALM, HEARER, 0, (room, "dozing"), (room, "dozing"), value)
                    self.assert_plan(False, CALM, HEARER, 0, (2, "asleep"), (2, "asleep"), value)

    def test_places_of_another_form(self):
        for place in no_places():
            for deed in ("hum doze", "wait"):
                for room in (0, 1):
                    self.assert_plan(False, CALM, HEARER, 0, (room, "dozing"), (room, "dozing"), ((place, deed, 1),))

    def test_entries_of_another_form(self):
        entry = ((0, ("asleep",), True), "hum doze", 1)
        at_goal = (CALM, HEARER, 0, (0, "dozing"), (0, "dozing"))
        self.assert_plan(True, *at_goal, (entry,))
        for wrong in [list(entry), entry[:2], entry + (1,), entry[::-1], (entry,), entry[:1], ()] + any_values():
            self.assert_plan(False, *at_goal, (wrong,))
            self.assert_plan(False, *at_goal, (entry, wrong))
            self.assert_plan(False, *at_goal, (wrong, entry))

    def test_any_values(self):
        right = plan(home(), light(), 0, START, GOAL)
        for value in any_values() + [right[0], right[0][0], deep(right), (deep(right[0]),), (deep(right[0][0]),)]:
            for held in (value, (value,), [value], ((value,),), ((value, value, value),), (value, value),
                         right + (value,), (value,) + right, ((BEGIN, "wait", value),), ((value, "wait", 1),)):
                self.assert_written(held == () and False, held)
                self.assert_bar(False, home(), light(), 1, START, GOAL, held)


class Bars(PlansCase):
    def test_written_out(self):
        # The gate can take a tick, behind which no wait is possible; so waiting in the street is all that is left.
        errand = (home(), light(), 1, START, GOAL)
        value = (BEGIN, (1, ("stirring", 1), False))
        self.assert_bar(True, *errand, value)
        self.assert_bar(True, *errand, value[::-1])
        self.assert_bar(False, *errand, value[:1])
        self.assert_bar(False, *errand, value[1:])
        self.assert_bar(False, home(), light(), 0, START, GOAL, value)
        self.assert_bar(True, home(), light(), 2, START, GOAL, value)
        # With slow 2 the gate alone can wake the sleeper.
        self.assert_bar(True, home(), light(), 2, START, GOAL, (BEGIN,))

    def test_lists_and_nothing(self):
        errand = (home(), light(), 1, START, GOAL)
        value = bar(*errand)
        self.assert_bar(True, *errand, value)
        for wrong in ((), [], list(value), (value,), tuple(list(place) for place in value), (value, value)):
            self.assert_bar(False, *errand, wrong)

    def test_a_place_twice(self):
        errand = (home(), light(), 1, START, GOAL)
        value = bar(*errand)
        for place in value:
            self.assert_bar(False, *errand, value + (place,))
            self.assert_bar(False, *errand, (place,) + value)

    def test_the_goal_in_it(self):
        errand = (House(2, [(0, 1, None)], [], []), light(), 0, START, (1, "up"))
        value = bar(*errand)
        self.assert_bar(True, *errand, value)
        further = value + tuple((room, ("up",), free) for room in (0, 1) for free in (False, True))
        self.assert_bar(False, *errand, further)
        # All else holds, as is seen with another goal.
        self.assert_bar(True, *errand[:4], (1, "dozing"), further)

    def test_without_the_beginning(self):
        # Both places wait for ever; only the one at which she begins is a bar.
        house = House(1, [])
        for free in (False, True):
            self.assert_bar(free, house, light(), 0, START, (0, "up"), ((0, ("asleep",), free),))
        self.assert_bar(True, house, light(), 0, START, (0, "up"), (BEGIN, (0, ("asleep",), False)))
        self.assert_bar(False, house, light(), 0, START, (0, "up"), ((0, ("asleep",), False),))

    def test_places_that_never_come(self):
        house = House(3, [], [], [])
        for state in states_of(HEARER):
            behind = ((2, state, True), (2, state, False))
            told = bar_holds(house, HEARER, 0, START, (0, "up"), (BEGIN,) + behind)
            self.assertIs(told, is_bar(house, HEARER, 0, START, (0, "up"), (BEGIN,) + behind))
        every = tuple((2, state, True) for state in states_of(HEARER))
        self.assert_bar(True, house, HEARER, 0, START, (0, "up"), (BEGIN,) + every)
        self.assert_bar(True, house, HEARER, 0, START, (0, "up"), every + (BEGIN,))

    def test_waking_is_as_good_as_a_place(self):
        house = House(2, [(0, 1, "bang")], [], [1])
        self.assert_bar(True, house, HEARER, 0, START, (1, "up"), (BEGIN,))
        self.assert_bar(False, house.mended(["bang"]), HEARER, 0, START, (1, "up"), (BEGIN,))
        stirring = (0, ("stirring", 1), True)
        self.assert_bar(True, house, HEARER, 0, START, (1, "up"), (stirring, BEGIN))

    def test_one_outcome_is_enough(self):
        # With slow 1 the door has two outcomes, of which one in the bar is enough.
        house = House(2, [(0, 1, "hiss")])
        for place in ((1, ("stirring", 2), False), (1, ("stirring", 1), False)):
            value = (BEGIN, place, (1, ("stirring", 1), True), (0, ("stirring", 1), True), (0, ("stirring", 1), False))
            wanted = is_bar(house, HEARER, 1, START, (1, "up"), value)
            self.assert_bar(wanted, house, HEARER, 1, START, (1, "up"), value)
            self.assertTrue(wanted)

    def test_places_of_another_form(self):
        house = House(3, [(0, 1, None), (1, 2, None)])
        every = tuple((room, state, free) for room in range(3) for state in states_of(HEARER)
                      for free in (False, True) if state != ("up",))
        for first in ("asleep", "dozing"):
            self.assert_bar(True, house, HEARER, 2, (0, first), (2, "up"), every)
            self.assert_bar(True, house, HEARER, 2, (0, first), (2, "up"), every[::-1])
        for place in no_places():
            for at in (0, 1, len(every)):
                self.assert_bar(False, house, HEARER, 2, START, (2, "up"), every[:at] + (place,) + every[at:])
            self.assert_bar(False, house, HEARER, 2, START, (2, "up"), (place,))

    def test_one_in_the_place_of_true(self):
        house = House(1, [])
        for free in (True, 1):
            self.assert_bar(free is True, house, light(), 0, START, (0, "up"), ((0, ("asleep",), free),))
        self.assert_bar(False, house, light(), 0, START, (0, "up"), ((False, ("asleep",), True),))
        dozing = tuple((0, ("dozing", t), True) for t in (1, 2, 3))
        self.assert_bar(True, house, light(), 0, (0, "dozing"), (0, "up"), dozing + (BEGIN,))
        wrong = ((0, ("dozing", True), True),) + dozing[1:] + (BEGIN,)
        self.assert_bar(False, house, light(), 0, (0, "dozing"), (0, "up"), wrong)

    def test_any_values(self):
        house = House(1, [])
        right = bar(house, light(), 0, START, (0, "up"))
        for value in any_values() + [right[0], deep(right), (deep(right[0]),)]:
            for held in (value, (value,), [value], ((value,),), ((value, value, value),), (value, value),
                         right + (value,), (value,) + right, (BEGIN + (value,),), ((0, value, True),)):
                self.assert_bar(held == right, house, light(), 0, START, (0, "up"), held)

    def test_objects_within_places(self):
        for thing in objects():
            for place in ((thing, ("up",), True), (0, (thing,), True), (0, ("dozing", thing), True),
                          (0, ("asleep", thing, 0), True), (0, ("asleep", "drip", thing), True), (0, ("up",), thing)):
                self.assert_bar(False, CALM, HEARER, 0, START, (2, "up"), (BEGIN, place))
                self.assert_plan(False, CALM, HEARER, 0, START, (0, "asleep"), ((place, "wait", 1),))

    def test_beyond_the_limits(self):
        house = House(8, [(room, room + 1, "bang") for room in range(7)], [], [7])
        sleeper = Sleeper([("bang", "loud")], 9, 30, 4, "nothing")
        self.assertIsNone(plan(house, sleeper, 5, (0, "dozing"), (7, "up")))
        value = bar(house, sleeper, 5, (0, "dozing"), (7, "up"))
        self.assert_bar(True, house, sleeper, 5, (0, "dozing"), (7, "up"), value)


class AgainstWords(PlansCase):
    """Plans and bars of many houses, and what is near them, held against the words of the document."""

    def assert_near_plan(self, chance, errand, value):
        house, sleeper, slow, start, goal = errand
        shuffled = list(value)
        chance.shuffle(shuffled)
        self.assert_plan(True, *errand, tuple(shuffled))
        self.assert_plan(False, *errand, shuffled)
        times = chance.randint(2, 9)
        self.assert_plan(True, *errand, tuple((place, deed, times * rank) for place, deed, rank in value))
        for at, (place, deed, rank) in enumerate(value[:15]):
            self.assert_plan(False, *errand, value + (value[at],))
            deeds = ["wait", "hum up", "hum doze", "door 0", "door 1", "door 2", "door 3"]
            others = [()] + [((place, other, rank),) for other in deeds] + [((place, deed, rank + 1),)]
            others += [((place, deed, rank - 1),)] if rank > 1 else []
            for entries in others:
                changed = value[:at] + entries + value[at + 1:]
                self.assert_plan(is_plan(*errand, changed), *errand, changed)
        for other in range(3):
            wanted = is_plan(house, sleeper, other, start, goal, value)
            self.assert_plan(wanted, house, sleeper, other, start, goal, value)

    def assert_near_bar(self, chance, errand, value):
        house, sleeper, slow, start, goal = errand
        shuffled = list(value)
        chance.shuffle(shuffled)
        self.assert_bar(True, *errand, tuple(shuffled))
        self.assert_bar(False, *errand, shuffled)
        for at in range(min(len(value), 15)):
            left = value[:at] + value[at + 1:]
            self.assert_bar(is_bar(*errand, left), *errand, left)
            self.assert_bar(False, *errand, value + (value[at],))
        for state in states_of(sleeper):
            further = value + ((goal[0], state, chance.random() < 0.5),)
            wanted = is_bar(*errand, further) and len(set(further)) == len(further)
            self.assert_bar(wanted, *errand, further)
        for other in range(3):
            wanted = is_bar(house, sleeper, other, start, goal, value)
            self.assert_bar(wanted, house, sleeper, other, start, goal, value)

    def assert_errands(self, chance, errands):
        for errand in errands:
            told, barred = plan(*errand), bar(*errand)
            self.assertIs(told is None, not sure(*errand))
            self.assertIs(barred is None, sure(*errand))
            if told is None:
                self.assertIs(type(barred), tuple)
                self.assertTrue(is_bar(*errand, barred) and len(set(barred)) == len(barred))
                self.assert_near_bar(chance, errand, barred)
            else:
                self.assertIs(type(told), tuple)
                self.assertTrue(is_plan(*errand, told))
                self.assertEqual(len({place for place, deed, rank in told}), len(told))
                self.assertEqual(max([0] + [rank for place, deed, rank in told]), deeds_needed(*errand))
                self.assert_near_plan(chance, errand, told)

    def test_small_houses(self):
        self.assert_errands(random.Random(41), small_errands(42, 250))

    def test_long_ways(self):
        self.assert_errands(random.Random(43), hard_errands(44, 150))

    def test_never_both(self):
        # Whatever is tried, no plan and no bar hold for the same errand.
        chance = random.Random(45)
        for house, sleeper, slow, start, goal in small_errands(46, 120, 2, 2):
            errand = (house, sleeper, slow, start, goal)
            places = [(room, state, free) for room in range(house.rooms) for state in states_of(sleeper)
                      for free in (False, True)]
            for _ in range(20):
                lot = [place for place in places if chance.random() < 0.7]
                value = tuple(dict.fromkeys([beginning(sleeper, start)] + lot))
                if bar_holds(*errand, value):
                    self.assertTrue(is_bar(*errand, value))
                    self.assertIs(sure(*errand), False)
                    self.assertIsNone(plan(*errand))


if __name__ == "__main__":
    unittest.main()
