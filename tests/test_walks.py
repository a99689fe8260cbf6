"""Tests of hushsteps.walks, points [9] and [10], and of [1], [2], [3] as far as they speak of walks."""

import itertools
import unittest

from hushsteps.errors import HushError, InvalidEvent, InvalidWalk, Refused
from hushsteps.houses import House
from hushsteps.sleepers import Sleeper
from hushsteps.walks import Played, Walk, play
from samples import FIRSTS, any_values, deep, home, light, objects

EVENTS = ("step 0 0", "tick", "hum 2 up", "step 1 12", "hum 2 doze", "tick")


def no_numbers():
    """Any values that are no numbers."""
    return objects() + [None, True, False, -1, -80, "", "0", "1", [], (), [0], (0,), deep(0)]


def no_firsts():
    """Any values that are none of the three words."""
    return objects() + [
        None, True, False, 0, 1, "", "woken", "stirring", "Asleep", "asleep ", " up", "doze", "asleep dozing", "up\n",
        [], (), ["asleep"], ("asleep",), ("up",), list(FIRSTS), deep("up"),
    ]


def no_rows():
    """Any values that are no sequences."""
    return objects() + [None, True, False, 0, 1, -1, "", "tick", "step 0 0", "()"]


def no_events():
    """Any values that are no events of a walk with three people."""
    return objects() + [
        None, True, False, 0, 1, -1, [], (), ["tick"], ("tick",), ("step", 0, 0), deep("tick"),
        "", " ", "\n", "tick ", " tick", "tick\n", "\ntick", "tick tick", "tick 0", "Tick", "TICK", "ticks", "tic",
        "step", "step ", "step 0", "step 0 ", "step  0 0", "step 0  0", " step 0 0", "step 0 0 ", "step 0 0 0",
        "step 0 0\n", "step 0\n0", "step\n0 0", "step\t0 0", "Step 0 0", "steps 0 0", "step0 0", "step 00", "0 0",
        "step 00 0", "step 0 00", "step 01 0", "step 0 01", "step 0 007", "step 0 100", "step 000 0", "step 100 0",
        "step 3 0", "step 4 0", "step 10 0", "step 99 0", "step -1 0", "step 0 -1", "step +1 0", "step 0 +1",
        "step 0 1.0", "step 0 a", "step a 0", "step 0 -", "step 0 None", "step 0 1_0", "step 0 0x1",
        "step 0 \u0661", "step \u0661 0", "step 0 \u00b2", "step 0 \uff11", "step 0,0", "step 0 0 tick",
        "hum", "hum 2", "hum 2 ", "hum up", "hum up 2", "hum  2 up", "hum 2  up", " hum 2 up", "hum 2 up ",
        "hum 2 up\n", "hum 2 up up", "hum 2 up doze", "hum 2 Up", "hum 2 asleep", "hum 2 dozing", "hum 2 down",
        "hum 02 up", "hum 002 up", "hum 3 up", "hum 3 doze", "hum 99 up", "hum -1 up", "hum 100 up", "hum 2 0",
        "hum a up", "hum \u0662 up", "Hum 2 up", "hums 2 up", "hum 2", "walk 0 0", "wait", "undo",
    ]


class WalkCase(unittest.TestCase):
    def assert_invalid(self, word, *arguments, **named):
        with self.assertRaises(InvalidWalk) as caught:
            Walk(*arguments, **named)
        self.assertEqual(caught.exception.word, word, (arguments, named))
        self.assertIs(type(caught.exception), InvalidWalk)

    def assert_no_event(self, at, work, *arguments):
        with self.assertRaises(InvalidEvent) as caught:
            work(*arguments)
        self.assertEqual(caught.exception.at, at, arguments)
        self.assertIs(type(caught.exception.at), int)
        self.assertIs(type(caught.exception), InvalidEvent)

    def assert_like(self, walk, *wanted):
        self.assertIs(type(walk), Walk)
        self.assertEqual((walk.guests, walk.nurses, walk.first, walk.events), wanted)
        self.assertIs(type(walk.events), tuple)
        self.assertEqual(len(walk), len(wanted[3]))


class Attributes(WalkCase):
    def test_lists_and_tuples(self):
        self.assert_like(Walk(2, 1, "asleep", list(EVENTS)), 2, 1, "asleep", EVENTS)
        self.assert_like(Walk(2, 1, "asleep", EVENTS), 2, 1, "asleep", EVENTS)
        self.assert_like(Walk(0, 3, "up", []), 0, 3, "up", ())

    def test_no_events_told(self):
        for guests, nurses, first in itertools.product(range(3), range(3), FIRSTS):
            self.assert_like(Walk(guests, nurses, first), guests, nurses, first, ())

    def test_by_parameter_names(self):
        walk = Walk(events=["tick"], first="dozing", nurses=2, guests=1)
        self.assert_like(walk, 1, 2, "dozing", ("tick",))
        self.assert_like(walk.further(events=["hum 1 up"]), 1, 2, "dozing", ("tick", "hum 1 up"))
        self.assert_like(walk.upto(many=0), 1, 2, "dozing", ())

    def test_a_list_that_is_changed_afterwards(self):
        events = ["step 0 0", "tick"]
        walk = Walk(1, 0, "asleep", events)
        self.assertEqual(events, ["step 0 0", "tick"])
        events.append("nonsense")
        events[0] = "tick"
        self.assert_like(walk, 1, 0, "asleep", ("step 0 0", "tick"))
        self.assertEqual(play(home(), light(), walk).places, (1,))

    def test_people_that_there_are(self):
        for guests, nurses in ((3, 0), (2, 1), (1, 2), (0, 3)):
            for person in range(3):
                for word in ("up", "doze"):
                    Walk(guests, nurses, "up", [f"hum {person} {word}", f"step {person} 0"])
            for event in ("step 3 0", "hum 3 up", "hum 3 doze"):
                self.assert_no_event(1, Walk, guests, nurses, "up", ["tick", event])

    def test_nobody(self):
        self.assert_like(Walk(0, 0, "up", ["tick"]), 0, 0, "up", ("tick",))
        for event in ("step 0 0", "hum 0 up", "hum 0 doze"):
            self.assert_no_event(0, Walk, 0, 0, "up", [event])
            self.assert_no_event(2, Walk, 0, 0, "up", ["tick", "tick", event, "tick"])

    def test_doors_that_no_house_has(self):
        for door in (0, 7, 9, 10, 42, 99):
            self.assert_like(Walk(1, 0, "up", [f"step 0 {door}"]), 1, 0, "up", (f"step 0 {door}",))

    def test_beyond_the_limits(self):
        events = ["step 11 0", "tick", "step 10 0", "hum 12 up"] * 60
        self.assert_like(Walk(12, 1, "asleep", events), 12, 1, "asleep", tuple(events))
        self.assert_no_event(240, Walk, 12, 1, "asleep", events + ["step 13 0"])
        self.assert_like(Walk(200, 0, "up", ["step 99 0"]), 200, 0, "up", ("step 99 0",))
        self.assert_no_event(0, Walk, 200, 0, "up", ["step 100 0"])

    def test_not_iterable(self):
        walk = Walk(1, 0, "asleep", ["tick"])
        played = play(home(), light(), walk)
        for use in (iter, list, tuple, set, sorted, lambda w: [*w], lambda w: "tick" in w, lambda w: w[0]):
            for thing in (walk, played):
                with self.assertRaises(TypeError):
                    use(thing)
        with self.assertRaises(TypeError):
            len(played)


class WrongArguments(WalkCase):
    def test_each_by_itself(self):
        for value in no_numbers():
            self.assert_invalid("guests", value, 0, "up", [])
            self.assert_invalid("nurses", 0, value, "up", [])
            self.assert_invalid("guests", value, 0, "up")
        for value in no_firsts():
            self.assert_invalid("first", 1, 1, value, ["tick"])
            self.assert_invalid("first", 0, 0, value)
        for value in no_rows():
            self.assert_invalid("events", 1, 1, "up", value)

    def test_several_at_once(self):
        order = ("guests", "nurses", "first", "events")
        good = {"guests": 1, "nurses": 1, "first": "up", "events": ["tick"]}
        for many in range(1, 5):
            for wrong in itertools.combinations(order, many):
                self.assert_invalid(wrong[0], **{**good, **{word: None for word in wrong}})
                self.assert_invalid(wrong[0], **{**good, **{word: True for word in wrong}})

    def test_ahead_of_events_that_are_none(self):
        for wrong in ({"guests": -1}, {"nurses": True}, {"first": "woken"}):
            for word in wrong:
                self.assert_invalid(word, **{"guests": 1, "nurses": 1, "first": "up", "events": ["no"], **wrong})

    def test_all_are_hush_errors(self):
        for work in (lambda: Walk(None, 0, "up"), lambda: Walk(1, 0, "up", [0]), lambda: Walk(1, 0, "up").further(0)):
            with self.assertRaises(HushError):
                work()


class WrongEvents(WalkCase):
    def test_good_ones(self):
        for event in ("tick", "step 0 0", "step 2 99", "step 1 10", "hum 0 up", "hum 2 doze", "hum 1 up"):
            self.assert_like(Walk(2, 1, "up", [event]), 2, 1, "up", (event,))

    def test_each_wrong_one_at_each_place(self):
        good = ["step 0 0", "tick", "hum 2 up"]
        for wrong in no_events():
            for at in range(4):
                self.assert_no_event(at, Walk, 2, 1, "asleep", good[:at] + [wrong] + good[at:])
            self.assert_no_event(0, Walk, 0, 3, "up", (wrong,))

    def test_the_first_of_several(self):
        self.assert_no_event(1, Walk, 2, 1, "up", ["tick", "step 3 0", "nonsense", None])
        self.assert_no_event(0, Walk, 2, 1, "up", [[], "tick", 7])
        self.assert_no_event(2, Walk, 1, 0, "up", ("tick", "tick", "hum 1 up", "step 0 000"))

    def test_wrong_events_of_further(self):
        walk = Walk(2, 1, "asleep", ["step 0 0", "tick"])
        for wrong in no_events():
            for at in range(3):
                events = ["tick", "tick"]
                events.insert(at, wrong)
                self.assert_no_event(2 + at, walk.further, events)
            self.assert_no_event(0, Walk(2, 1, "up").further, [wrong])
        self.assert_like(walk, 2, 1, "asleep", ("step 0 0", "tick"))


class Upto(WalkCase):
    def test_some_all_and_more(self):
        walk = Walk(2, 1, "dozing", EVENTS)
        for many in range(20):
            self.assert_like(walk.upto(many), 2, 1, "dozing", EVENTS[:many])
        self.assert_like(walk, 2, 1, "dozing", EVENTS)
        self.assertEqual(walk.upto(6), walk)
        self.assertEqual(walk.upto(7), walk)

    def test_of_none(self):
        self.assert_like(Walk(0, 0, "up").upto(0), 0, 0, "up", ())
        self.assert_like(Walk(0, 0, "up").upto(3), 0, 0, "up", ())


class Further(WalkCase):
    def test_good_events(self):
        walk = Walk(1, 1, "up", ["tick"])
        for events in ([], (), ["step 0 3"], ("hum 1 doze", "tick"), ["tick"] * 90):
            self.assert_like(walk.further(events), 1, 1, "up", ("tick",) + tuple(events))
        self.assert_like(walk, 1, 1, "up", ("tick",))
        self.assert_like(Walk(1, 1, "up").further(EVENTS[:2]), 1, 1, "up", EVENTS[:2])

    def test_a_list_that_is_changed_afterwards(self):
        events = ["tick"]
        longer = Walk(1, 1, "up", ["step 0 0"]).further(events)
        self.assertEqual(events, ["tick"])
        events.append("step 1 1")
        self.assert_like(longer, 1, 1, "up", ("step 0 0", "tick"))

    def test_no_sequence(self):
        walk = Walk(2, 1, "up", ["tick"])
        for value in no_rows():
            with self.assertRaises(InvalidWalk) as caught:
                walk.further(value)
            self.assertEqual(caught.exception.word, "events")
        self.assert_like(walk, 2, 1, "up", ("tick",))


class Equality(WalkCase):
    def test_equal(self):
        walk = Walk(2, 1, "asleep", ["tick", "step 0 0"])
        self.assertTrue(walk == Walk(2, 1, "asleep", ("tick", "step 0 0")))
        self.assertFalse(walk != Walk(2, 1, "asleep", ["tick", "step 0 0"]))
        self.assertEqual(Walk(2, 1, "asleep", ["tick"]).further(["step 0 0"]), walk)
        self.assertEqual(Walk(2, 1, "asleep", ["tick", "step 0 0", "tick"]).upto(2), walk)
        self.assertEqual(Walk(0, 0, "up"), Walk(0, 0, "up", []))

    def test_not_equal(self):
        walks = [Walk(2, 1, "asleep", ["tick", "step 0 0"]), Walk(1, 1, "asleep", ["tick", "step 0 0"]),
                 Walk(2, 0, "asleep", ["tick", "step 0 0"]), Walk(1, 2, "asleep", ["tick", "step 0 0"]),
                 Walk(2, 1, "up", ["tick", "step 0 0"]), Walk(2, 1, "asleep", ["step 0 0", "tick"]),
                 Walk(2, 1, "asleep", ["tick"]), Walk(2, 1, "asleep", ["tick", "step 0 1"]), Walk(2, 1, "asleep")]
        for one, other in itertools.combinations(walks, 2):
            self.assertFalse(one == other)
            self.assertTrue(one != other)

    def test_with_other_classes(self):
        walk = Walk(1, 0, "asleep", ["tick"])
        for value in any_values():
            if type(value) is not Walk:
                self.assertIs(walk == value, False)
                self.assertIs(walk != value, True)
                self.assertIs(value == walk, False)


# A door between the street and room 1 for each noise; a sleeper who hears all but the last ones.
NOISY = ("bang", "crk", "drip", "hiss", "tap", None, "zzz")
BANG, CRK, DRIP, HISS, TAP, STILL, ZZZ = range(7)


def noisy():
    return House(2, [(0, 1, noise) for noise in NOISY], [], [0])


def hearer(loud="again", near=2, stir=3, doze=4):
    sorts = [("bang", "loud"), ("crk", "sudden"), ("drip", "faint"), ("hiss", "soft"), ("tap", "faint")]
    return Sleeper(sorts, stir, doze, near, loud)


class PlayCase(unittest.TestCase):
    def assert_played(self, played, state, places, ticks, made, woke):
        self.assertIs(type(played), Played)
        self.assertEqual((played.state, played.places, played.ticks, played.made, played.woke),
                         (state, places, ticks, made, woke))
        for row in (played.state, played.places, played.made) + played.made:
            self.assertIs(type(row), tuple)
        self.assertIs(type(played.ticks), int)

    def assert_refused(self, at, house, walk):
        with self.assertRaises(Refused) as caught:
            play(house, light(), walk)
        self.assertEqual(caught.exception.at, at, walk.events)
        self.assertIs(type(caught.exception), Refused)
        # What is ahead of the first event that is not possible is possible.
        play(house, light(), walk.upto(at))

    def assert_states(self, sleeper, first, deeds, states):
        """Deeds are doors (another guest each time goes through one), "tick", or what the nurse hums."""
        events = []
        woke = None
        for at, deed in enumerate(deeds):
            if deed == "tick":
                events.append(deed)
            else:
                events.append(f"step {at} {deed}" if isinstance(deed, int) else f"hum {len(deeds)} {deed}")
            walk = Walk(len(deeds), 1, first, events)
            played = play(noisy(), sleeper, walk)
            self.assertEqual(played.state, states[at], events)
            woke = at if woke is None and states[at] == ("woken",) else woke
            self.assertEqual(played.woke, woke, events)


class Play(PlayCase):
    def test_as_in_the_document(self):
        done = play(home(), light(), Walk(1, 0, "asleep", ["step 0 0", "tick", "step 0 1"]))
        self.assert_played(done, ("stirring", 1), (2,), 1, ((0, "gate"), (1, "plnk")), None)

    def test_by_parameter_names(self):
        done = play(walk=Walk(1, 0, "up", ["tick"]), sleeper=light(), house=home())
        self.assert_played(done, ("up",), (0,), 1, (), None)

    def test_no_events(self):
        states = {"asleep": ("asleep",), "dozing": ("dozing", 3), "up": ("up",)}
        for first in FIRSTS:
            self.assert_played(play(home(), light(), Walk(2, 1, first)), states[first], (0, 0, 0), 0, (), None)
            self.assert_played(play(home(), light(), Walk(0, 0, first)), states[first], (), 0, (), None)

    def test_nobody(self):
        played = play(home(), light(), Walk(0, 0, "dozing", ["tick", "tick"]))
        self.assert_played(played, ("dozing", 1), (), 2, (), None)

    def test_the_noise_of_a_door_ahead_of_that_of_the_floor(self):
        house = House(2, [(0, 1, "door")], [(0, "out"), (1, "in")])
        walk = Walk(2, 0, "up", ["step 0 0", "tick", "step 1 0", "step 0 0", "tick", "tick", "step 1 0"])
        made = ((0, "door"), (0, "in"), (1, "door"), (1, "in"), (1, "door"), (1, "out"), (3, "door"), (3, "out"))
        self.assert_played(play(house, light(), walk), ("up",), (0, 0), 3, made, None)

    def test_the_order_matters_to_the_sleeper(self):
        sleeper = Sleeper([("s", "soft"), ("x", "sudden")], 2, 1, 1, "again")
        walk = Walk(1, 0, "asleep", ["step 0 0"])
        played = play(House(2, [(0, 1, "s")], [(1, "x")]), sleeper, walk)
        self.assert_played(played, ("stirring", 2), (1,), 0, ((0, "s"), (0, "x")), None)
        played = play(House(2, [(0, 1, "x")], [(1, "s")]), sleeper, walk)
        self.assert_played(played, ("woken",), (1,), 0, ((0, "x"), (0, "s")), 0)

    def test_a_door_alone_a_floor_alone_and_neither(self):
        house = House(3, [(0, 1, "door"), (0, 2, None), (1, 2, None)], [(2, "in")])
        walk = Walk(3, 0, "up", ["step 0 0", "tick", "step 1 1", "tick", "step 1 2"])
        self.assert_played(play(house, light(), walk), ("up",), (1, 1, 0), 2, ((0, "door"), (1, "in")), None)

    def test_the_same_noise_of_door_and_floor(self):
        house = House(2, [(0, 1, "drip")], [(1, "drip")])
        played = play(house, hearer(), Walk(1, 0, "asleep", ["tick", "step 0 0"]))
        self.assert_played(played, ("asleep", "drip", 0), (1,), 1, ((1, "drip"), (1, "drip")), None)

    def test_doors_lead_both_ways(self):
        house = House(3, [(2, 0, None), (1, 2, None), (1, 0, "a"), (0, 1, "b")])
        walk = Walk(2, 0, "up", ["step 0 0", "step 1 2", "tick", "step 0 1", "step 1 3"])
        self.assert_played(play(house, light(), walk), ("up",), (1, 0), 1, ((0, "a"), (1, "b")), None)

    def test_made_tells_the_ticks_ahead(self):
        events = ["tick", "tick", "step 0 6", "step 1 5", "tick", "step 0 6", "step 1 4", "step 2 0"]
        played = play(noisy(), hearer(), Walk(3, 0, "up", events))
        self.assert_played(played, ("up",), (0, 0, 1), 3, ((2, "zzz"), (3, "zzz"), (3, "tap"), (3, "bang")), None)

    def test_everything_made_is_told_even_behind_waking(self):
        events = ["step 0 1", "step 1 0", "tick", "step 0 1", "hum 2 up", "hum 2 doze", "step 1 3", "tick"]
        played = play(noisy(), hearer(), Walk(2, 1, "asleep", events))
        made = ((0, "crk"), (0, "bang"), (1, "crk"), (1, "hiss"))
        self.assert_played(played, ("woken",), (0, 0, 0), 2, made, 0)

    def test_the_same_call_again(self):
        house, sleeper = noisy(), hearer()
        walk = Walk(2, 1, "asleep", ["step 0 3", "tick", "step 0 0", "hum 2 up"])
        one = play(house, sleeper, walk)
        play(house, sleeper, walk.upto(2))
        play(home(), light(), Walk(1, 0, "up", ["step 0 0"]))
        self.assert_played(play(house, sleeper, walk), one.state, one.places, one.ticks, one.made, one.woke)
        self.assertEqual(walk, Walk(2, 1, "asleep", ["step 0 3", "tick", "step 0 0", "hum 2 up"]))

    def test_beyond_the_limits(self):
        house = House(12, [(room, room + 1, None) for room in range(11)])
        events = []
        for door in range(11):
            events.extend([f"step {person} {door}" for person in range(10)] + ["tick"])
        self.assert_played(play(house, light(), Walk(10, 0, "up", events)), ("up",), (11,) * 10, 11, (), None)


class NotPossible(PlayCase):
    def test_doors_that_there_are_not(self):
        for door in (2, 3, 9, 10, 99):
            self.assert_refused(0, home(), Walk(1, 0, "up", [f"step 0 {door}"]))
            self.assert_refused(2, home(), Walk(1, 0, "up", ["tick", "step 0 0", f"step 0 {door}"]))
        self.assert_refused(0, House(1, []), Walk(0, 1, "up", ["step 0 0"]))

    def test_doors_at_other_rooms(self):
        self.assert_refused(0, home(), Walk(1, 0, "up", ["step 0 1"]))
        self.assert_refused(4, home(), Walk(1, 0, "up", ["step 0 0", "tick", "step 0 1", "tick", "step 0 0"]))
        self.assert_refused(2, home(), Walk(2, 0, "up", ["step 0 0", "tick", "step 1 1"]))

    def test_a_second_step_in_a_tick(self):
        self.assert_refused(1, home(), Walk(1, 0, "up", ["step 0 0", "step 0 0"]))
        self.assert_refused(1, home(), Walk(1, 0, "up", ["step 0 0", "step 0 1"]))
        self.assert_refused(2, home(), Walk(2, 0, "up", ["step 0 0", "step 1 0", "step 0 1"]))
        self.assert_refused(4, home(), Walk(0, 2, "up", ["tick", "step 1 0", "tick", "step 1 1", "step 1 1"]))
        self.assert_refused(5, home(), Walk(1, 0, "up", ["tick", "step 0 0", "tick", "tick", "step 0 0", "step 0 0"]))

    def test_a_second_step_behind_a_tick(self):
        for ticks in (1, 2, 5):
            walk = Walk(1, 0, "up", ["step 0 0"] + ["tick"] * ticks + ["step 0 0"])
            self.assertEqual(play(home(), light(), walk).places, (0,))

    def test_steps_of_several_in_a_tick(self):
        played = play(home(), light(), Walk(2, 2, "up", ["step 3 0", "step 1 0", "step 0 0", "tick", "step 3 1"]))
        self.assertEqual(played.places, (1, 1, 0, 2))

    def test_humming_of_guests(self):
        for word in ("up", "doze"):
            self.assert_refused(0, noisy(), Walk(1, 1, "up", [f"hum 0 {word}"]))
            self.assert_refused(0, noisy(), Walk(2, 0, "up", [f"hum 1 {word}"]))
            self.assert_refused(0, home(), Walk(1, 1, "up", [f"hum 0 {word}"]))
            self.assert_refused(4, home(), Walk(1, 1, "up", ["step 0 0", "tick", "step 0 1", "tick", f"hum 0 {word}"]))

    def test_humming_of_nurses(self):
        for word, state in (("up", ("up",)), ("doze", ("dozing", 3))):
            self.assert_refused(0, home(), Walk(1, 1, "up", [f"hum 1 {word}"]))
            self.assert_refused(1, home(), Walk(0, 1, "up", ["step 0 0", f"hum 0 {word}"]))
            walk = Walk(1, 1, "asleep", ["step 1 0", "tick", "step 1 1", f"hum 1 {word}"])
            played = play(home(), light(), walk)
            self.assert_played(played, state, (0, 2), 1, ((0, "gate"), (1, "plnk")), None)
            self.assertEqual(play(home(), light(), walk.further([f"hum 1 {word}"])).state, state)

    def test_humming_in_the_street(self):
        house = House(2, [(0, 1, None)], [], [0])
        self.assertEqual(play(house, light(), Walk(0, 1, "asleep", ["hum 0 up"])).state, ("up",))
        self.assertEqual(play(house, light(), Walk(3, 2, "up", ["hum 4 doze", "tick"])).state, ("dozing", 2))
        self.assert_refused(1, house, Walk(0, 1, "up", ["step 0 0", "hum 0 up"]))
        self.assert_refused(0, House(2, [(0, 1, None)]), Walk(0, 1, "up", ["hum 0 up"]))

    def test_humming_hinders_no_step(self):
        house = House(2, [(0, 1, None)], [], [0, 1])
        events = ["hum 0 up", "step 0 0", "hum 0 doze", "tick", "step 0 0", "hum 0 up"]
        self.assert_played(play(house, light(), Walk(0, 1, "up", events)), ("up",), (0,), 1, (), None)

    def test_the_first_of_several(self):
        self.assert_refused(1, home(), Walk(1, 0, "up", ["tick", "step 0 1", "hum 0 up", "step 0 9"]))
        self.assert_refused(0, home(), Walk(1, 1, "up", ["hum 1 up", "step 0 1"]))

    def test_behind_waking_too(self):
        self.assert_refused(1, noisy(), Walk(2, 0, "asleep", ["step 0 1", "hum 0 up"]))
        quiet = home().mended(["gate"])
        events = ["step 0 0", "tick", "step 0 1", "step 0 1"]
        self.assert_refused(3, quiet, Walk(1, 0, "asleep", events))
        self.assertEqual(play(quiet, light(), Walk(1, 0, "asleep", events[:3])).woke, 2)


class Waking(PlayCase):
    def test_woken_by_a_step(self):
        for door in (BANG, CRK):
            walk = Walk(1, 0, "asleep", ["tick", f"step 0 {door}", "tick"])
            played = play(noisy(), hearer(), walk)
            self.assert_played(played, ("woken",), (1,), 2, ((1, NOISY[door]),), 1)

    def test_woken_by_a_tick(self):
        walk = Walk(1, 0, "asleep", ["step 0 3", "tick", "tick", "tick", "tick"])
        self.assert_played(play(noisy(), hearer(), walk), ("woken",), (1,), 4, ((0, "hiss"),), 3)
        self.assert_played(play(noisy(), hearer(), walk.upto(3)), ("stirring", 1), (1,), 2, ((0, "hiss"),), None)

    def test_woken_by_the_very_first_event(self):
        self.assertEqual(play(noisy(), hearer(), Walk(1, 0, "asleep", ["step 0 1"])).woke, 0)
        self.assertEqual(play(noisy(), hearer("wake"), Walk(1, 0, "dozing", ["step 0 0"])).woke, 0)

    def test_never(self):
        for first in FIRSTS:
            walk = Walk(1, 0, first, ["tick"] * 9 + ["step 0 5"])
            self.assertIsNone(play(noisy(), hearer(), walk).woke)

    def test_the_first_time_alone_is_told(self):
        walk = Walk(5, 0, "asleep", ["step 0 1", "step 1 1", "tick", "step 2 0", "step 3 3"])
        self.assertEqual(play(noisy(), hearer(), walk).woke, 0)

    def test_humming_wakes_nobody_and_calms_nobody(self):
        woken = ("woken",)
        self.assert_states(hearer(), "asleep", [CRK, "up", "doze", "tick"], [woken] * 4)


class Rules(PlayCase):
    def test_stirring_that_runs_out(self):
        for stir in range(1, 6):
            states = [("stirring", left) for left in range(stir, 0, -1)] + [("woken",), ("woken",)]
            self.assert_states(hearer(stir=stir), "asleep", [HISS] + ["tick"] * (stir + 1), states)

    def test_humming_in_time(self):
        for word, state, later in (("up", ("up",), ("up",)), ("doze", ("dozing", 4), ("dozing", 3))):
            states = [("stirring", 3), ("stirring", 2), ("stirring", 1), state, later]
            self.assert_states(hearer(), "asleep", [HISS, "tick", "tick", word, "tick"], states)

    def test_humming_too_late(self):
        self.assert_states(hearer(stir=1), "asleep", [HISS, "tick", "up"], [("stirring", 1), ("woken",), ("woken",)])

    def test_noises_to_one_who_stirs(self):
        for door in (CRK, DRIP, HISS, TAP, STILL, ZZZ):
            states = [("stirring", 3), ("stirring", 2), ("stirring", 2), ("stirring", 1)]
            self.assert_states(hearer(), "asleep", [HISS, "tick", door, "tick"], states)
        self.assert_states(hearer(), "asleep", [HISS, BANG], [("stirring", 3), ("woken",)])

    def test_faint_noises_near_by(self):
        for near, ticks in ((1, 0), (1, 1), (2, 0), (2, 1), (2, 2)):
            states = [("asleep", "drip", ago) for ago in range(ticks + 1)] + [("woken",)]
            self.assert_states(hearer(near=near), "asleep", [DRIP] + ["tick"] * ticks + [TAP], states)

    def test_faint_noises_long_ago(self):
        for near in (1, 2):
            states = [("asleep", "drip", ago) for ago in range(near + 1)] + [("asleep",), ("asleep", "tap", 0)]
            self.assert_states(hearer(near=near), "asleep", [DRIP] + ["tick"] * (near + 1) + [TAP], states)

    def test_the_same_faint_noise_again(self):
        kept = ("asleep", "drip", 0)
        states = [kept, kept, ("asleep", "drip", 1), kept, ("asleep", "drip", 1), ("asleep", "drip", 2), ("woken",)]
        self.assert_states(hearer(), "asleep", [DRIP, DRIP, "tick", DRIP, "tick", "tick", TAP], states)

    def test_other_noises_while_a_faint_one_is_kept(self):
        kept = ("asleep", "tap", 0)
        self.assert_states(hearer(), "asleep", [TAP, STILL, ZZZ, HISS], [kept, kept, kept, ("stirring", 3)])
        self.assert_states(hearer(), "asleep", [TAP, CRK], [kept, ("woken",)])
        self.assert_states(hearer(), "asleep", [TAP, BANG], [kept, ("woken",)])

    def test_loud_noises_to_one_who_dozes(self):
        first, later = ("dozing", 4), ("dozing", 3)
        deeds = [BANG, "tick", BANG, "tick"]
        self.assert_states(hearer("again"), "dozing", deeds, [first, later, first, later])
        self.assert_states(hearer("nothing"), "dozing", deeds, [first, later, later, ("dozing", 2)])
        self.assert_states(hearer("wake"), "dozing", deeds, [("woken",)] * 4)
        self.assert_states(hearer("wake"), "dozing", ["tick", BANG], [later, ("woken",)])

    def test_other_noises_to_one_who_dozes(self):
        for loud, door in itertools.product(("again", "nothing", "wake"), (CRK, DRIP, HISS, TAP, STILL, ZZZ)):
            self.assert_states(hearer(loud), "dozing", ["tick", door], [("dozing", 3), ("dozing", 3)])

    def test_dozing_runs_out(self):
        for doze in range(1, 6):
            states = [("dozing", left) for left in range(doze - 1, 0, -1)] + [("asleep",), ("asleep",)]
            self.assert_states(hearer(doze=doze), "dozing", ["tick"] * (doze + 1), states)

    def test_one_who_is_up(self):
        deeds = [BANG, CRK, DRIP, TAP, HISS, STILL, ZZZ, "tick", "up"]
        self.assert_states(hearer("wake"), "up", deeds, [("up",)] * 9)
        self.assert_states(hearer(), "up", ["doze", "tick", "up"], [("dozing", 4), ("dozing", 3), ("up",)])


if __name__ == "__main__":
    unittest.main()
