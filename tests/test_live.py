"""Tests of hushsteps.live, point [21], and of [1], [2], [3] as far as they speak of live houses."""

import random
import unittest

from hushsteps.errors import HushError, InvalidEvent, InvalidWalk, Refused
from hushsteps.houses import House
from hushsteps.live import Live
from hushsteps.sleepers import Sleeper
from hushsteps.walks import Played, Walk, play
from samples import FIRSTS, any_values, deep, home, light, objects, small_errands

EVENTS = ("step 0 0", "step 1 0", "tick", "step 0 1", "step 1 1", "tick", "hum 1 doze", "tick", "hum 1 up", "tick")
BAD_EVENTS = ("step 2 0", "step 9 0", "hum 2 up", "step 00 0", "ticks", "tick ", "", "hum 1 asleep", "step 0")
# In a new live house of the document, with a guest and a nurse.
REFUSED_EVENTS = ("step 0 1", "step 0 9", "hum 0 up", "hum 1 up", "hum 1 doze", "step 1 2")


def begun(first="asleep"):
    return Live(home(), light(), 1, 1, first)


def seen(live):
    """All that can be seen of a live house."""
    played = live.played
    return (str(live.house), str(live.sleeper), live.walk.guests, live.walk.nurses, live.walk.first, live.walk.events,
            played.state, played.places, played.ticks, played.made, played.woke, len(live))


def drained(live):
    """What is seen of a live house while all of its deeds are taken back, in a work that leaves it as it was."""
    def work(held):
        rows = [seen(held)]
        while held.undo():
            rows.append(seen(held))
        return rows
    return live.within(work)


class Stop(Exception):
    """What a work raises."""


class LiveCase(unittest.TestCase):
    def assert_like(self, live, house, sleeper, walk, deeds):
        """That a live house is what the walk in this house with this sleeper leads to."""
        self.assertIs(type(live.walk), Walk)
        self.assertIs(type(live.played), Played)
        self.assertEqual((live.house, live.sleeper, live.walk), (house, sleeper, walk))
        wanted, told = play(house, sleeper, walk), live.played
        self.assertEqual((told.state, told.places, told.ticks, told.made, told.woke),
                         (wanted.state, wanted.places, wanted.ticks, wanted.made, wanted.woke))
        self.assertEqual(len(live), deeds)

    def assert_error(self, live, kind, at, work, *arguments):
        """That a call raises an error, behind which all is as it was ahead; returns the error."""
        ahead = drained(live)
        with self.assertRaises(kind) as caught:
            work(*arguments)
        self.assertIs(type(caught.exception), kind, arguments)
        self.assertEqual(caught.exception.at, at, arguments)
        self.assertIs(type(caught.exception.at), int)
        self.assertIsInstance(caught.exception, HushError)
        self.assertEqual(drained(live), ahead)
        return caught.exception


class Beginning(LiveCase):
    def test_a_new_one(self):
        for first in FIRSTS:
            for guests in range(3):
                for nurses in range(3):
                    live = Live(home(), light(), guests, nurses, first)
                    self.assert_like(live, home(), light(), Walk(guests, nurses, first), 0)
                    self.assertIs(live.undo(), False)

    def test_by_parameter_names(self):
        live = Live(first="up", nurses=2, guests=1, sleeper=light(), house=home())
        self.assertEqual(live.do(event="tick"), ("up",))
        self.assertEqual(live.several(events=["tick"]), (("up",),))
        self.assertIsNone(live.change(sleeper=light()))
        self.assertEqual(live.within(work=len), 3)
        self.assert_like(live, home(), light(), Walk(1, 2, "up", ["tick", "tick"]), 3)

    def test_wrong_arguments(self):
        for value in objects() + [None, True, False, -1, "", "1", (), [], [1], deep(1)]:
            for word, arguments in (("guests", (value, 0, "up")), ("nurses", (0, value, "up")),
                                    ("guests", (value, value, value)), ("nurses", (1, value, None))):
                self.assert_invalid(word, *arguments)
        for value in any_values() + ["woken", "stirring", "Up", ("up",)]:
            if value not in FIRSTS:
                self.assert_invalid("first", 1, 1, value)

    def assert_invalid(self, word, guests, nurses, first):
        with self.assertRaises(InvalidWalk) as caught:
            Live(home(), light(), guests, nurses, first)
        self.assertIs(type(caught.exception), InvalidWalk)
        self.assertEqual(caught.exception.word, word)

    def test_not_iterable_and_properties_that_stay(self):
        live = begun()
        live.do("tick")
        for use in (iter, list, tuple, set, sorted, lambda held: [*held], lambda held: "tick" in held,
                    lambda held: held[0]):
            with self.assertRaises(TypeError):
                use(live)
        for name in ("house", "sleeper", "walk", "played"):
            self.assertIsInstance(vars(Live)[name], property)
            with self.assertRaises(AttributeError):
                setattr(live, name, None)

    def test_two_beside_each_other(self):
        house, sleeper = home(), light()
        one, other = Live(house, sleeper, 1, 1, "asleep"), Live(house, sleeper, 1, 1, "asleep")
        one.do("step 0 0")
        other.several(["tick", "tick"])
        one.change(Sleeper.read("stir 5 doze 1 near 1 loud wake"))
        self.assert_like(one, house, Sleeper.read("stir 5 doze 1 near 1 loud wake"),
                         Walk(1, 1, "asleep", ["step 0 0"]), 2)
        self.assert_like(other, house, light(), Walk(1, 1, "asleep", ["tick", "tick"]), 1)
        one.undo()
        one.undo()
        self.assert_like(one, house, light(), Walk(1, 1, "asleep"), 0)
        self.assert_like(other, house, light(), Walk(1, 1, "asleep", ["tick", "tick"]), 1)
        self.assertEqual((house, sleeper), (home(), light()))


class Do(LiveCase):
    def test_each_event(self):
        live = begun()
        walk = Walk(1, 1, "asleep")
        for many, event in enumerate(EVENTS):
            walk = walk.further([event])
            self.assertEqual(live.do(event), play(home(), light(), walk).state)
            self.assert_like(live, home(), light(), walk, many + 1)

    def test_what_was_told_stays(self):
        live = begun()
        walk, played = live.walk, live.played
        live.do("step 0 0")
        self.assertEqual((walk, played.places, played.made), (Walk(1, 1, "asleep"), (0, 0), ()))
        self.assertEqual(live.played.places, (1, 0))

    def test_behind_waking(self):
        live = begun()
        self.assertEqual(live.several(["step 0 0", "tick", "tick"]), (("stirring", 2), ("stirring", 1), ("woken",)))
        self.assertEqual(live.do("step 1 0"), ("woken",))
        self.assertEqual(live.played.woke, 2)
        self.assert_like(live, home(), light(), Walk(1, 1, "asleep", ["step 0 0", "tick", "tick", "step 1 0"]), 2)

    def test_no_events(self):
        live = begun()
        for many in range(4):
            for value in any_values() + list(BAD_EVENTS):
                if value != "tick" and value != "step 0 0":
                    self.assert_error(live, InvalidEvent, many, live.do, value)
            live.do("tick")
        self.assert_like(live, home(), light(), Walk(1, 1, "asleep", ["tick"] * 4), 4)

    def test_events_that_are_not_possible(self):
        live = begun()
        for many in range(3):
            for event in REFUSED_EVENTS:
                self.assert_error(live, Refused, many, live.do, event)
            live.do("tick")
        live.do("step 0 0")
        self.assert_error(live, Refused, 4, live.do, "step 0 1")
        self.assert_error(live, Refused, 4, live.do, "step 0 0")
        self.assertEqual(live.do("step 1 0"), ("stirring", 2))
        self.assert_error(live, Refused, 5, live.do, "hum 1 up")

    def test_the_number_counts_events_not_deeds(self):
        live = begun()
        live.several(["tick"] * 5)
        live.change(light())
        live.several([])
        self.assert_error(live, InvalidEvent, 5, live.do, "nonsense")
        self.assert_error(live, Refused, 5, live.do, "step 0 1")
        live.undo()
        live.undo()
        live.undo()
        self.assert_error(live, InvalidEvent, 0, live.do, None)

    def test_nobody(self):
        live = Live(home(), light(), 0, 0, "dozing")
        self.assertEqual([live.do("tick") for _ in range(4)],
                         [("dozing", 2), ("dozing", 1), ("asleep",), ("asleep",)])
        for event in ("step 0 0", "hum 0 up"):
            self.assert_error(live, InvalidEvent, 4, live.do, event)

    def test_small_houses(self):
        chance = random.Random(91)
        for house, sleeper, _, _, (_, first) in small_errands(92, 60):
            live, walk = Live(house, sleeper, 2, 1, first), Walk(2, 1, first)
            for _ in range(25):
                event = chance.choice(["tick", f"step {chance.randrange(3)} {chance.randrange(4)}",
                                       f"hum {chance.randint(1, 2)} {chance.choice(['up', 'doze'])}"])
                try:
                    play(house, sleeper, walk.further([event]))
                except Refused as error:
                    self.assert_error(live, Refused, error.at, live.do, event)
                else:
                    walk = walk.further([event])
                    self.assertEqual(live.do(event), play(house, sleeper, walk).state)
                self.assert_like(live, house, sleeper, walk, len(walk))

    def test_beyond_the_limits(self):
        live = Live(home(), light(), 60, 50, "up")
        for many in range(120):
            live.do("tick" if many % 2 else f"step {many % 97} 0")
        self.assertEqual((len(live), len(live.walk), live.played.ticks), (120, 120, 60))


class Several(LiveCase):
    def test_lists_and_tuples(self):
        for events in (list(EVENTS), EVENTS):
            live = begun()
            told = live.several(events)
            self.assertIs(type(told), tuple)
            other = begun()
            self.assertEqual(told, tuple(other.do(event) for event in EVENTS))
            self.assert_like(live, home(), light(), Walk(1, 1, "asleep", EVENTS), 1)
            self.assertIs(live.undo(), True)
            self.assert_like(live, home(), light(), Walk(1, 1, "asleep"), 0)

    def test_no_events(self):
        live = begun()
        for many, events in enumerate(([], (), [])):
            self.assertEqual(live.several(events), ())
            self.assert_like(live, home(), light(), Walk(1, 1, "asleep"), many + 1)

    def test_the_list_is_not_kept(self):
        live = begun()
        events = ["tick", "step 0 0"]
        live.several(events)
        self.assertEqual(events, ["tick", "step 0 0"])
        events[0] = "nonsense"
        self.assert_like(live, home(), light(), Walk(1, 1, "asleep", ["tick", "step 0 0"]), 1)

    def test_a_wrong_one_at_each_place(self):
        live = begun()
        live.do("tick")
        for at in range(len(EVENTS) + 1):
            for further in ((), ("tick",), (None, "nonsense")):
                for value in list(BAD_EVENTS) + [None, 7, True, [], ("tick",), ["tick"], deep("tick"), light()]:
                    events = EVENTS[:at] + (value,) + EVENTS[at:] + further
                    error = self.assert_error(live, Refused, at, live.several, events)
                    self.assertIs(type(error.__cause__), InvalidEvent)
                    self.assertEqual(error.__cause__.at, at + 1)
                events = list(EVENTS[:at]) + ["step 0 7"] + list(EVENTS[at:] + further)
                error = self.assert_error(live, Refused, at, live.several, events)
                self.assertIs(type(error.__cause__), Refused)
                self.assertEqual(error.__cause__.at, at + 1)

    def test_the_first_wrong_one(self):
        live = begun()
        self.assert_error(live, Refused, 1, live.several, ["tick", "step 0 1", "nonsense"])
        self.assert_error(live, Refused, 1, live.several, ["tick", "nonsense", "step 0 1"])
        # The step is possible only as the first one since the tick.
        self.assert_error(live, Refused, 2, live.several, ["tick", "step 0 0", "step 0 1", "tick"])

    def test_no_sequence(self):
        live = begun()
        live.several(["tick", "tick"])
        for value in objects() + [None, True, False, 0, 3, -1, "", "tick", "tick tick"]:
            error = self.assert_error(live, Refused, 0, live.several, value)
            self.assertIsNone(error.__cause__)

    def test_any_values(self):
        live = begun()
        for value in any_values():
            if value not in ([], (), ["tick"], ("tick",)):
                self.assert_error(live, Refused, 0, live.several, value)


class Change(LiveCase):
    def test_another_sleeper(self):
        live = begun()
        live.several(EVENTS[:6])
        for many, text in enumerate(("stir 5 doze 2 near 1 loud wake gate soft", "stir 1 doze 1 near 1 loud again",
                                     "stir 1 doze 1 near 1 loud again gate loud plnk loud")):
            sleeper = Sleeper.read(text)
            self.assertIsNone(live.change(sleeper))
            self.assert_like(live, home(), sleeper, Walk(1, 1, "asleep", EVENTS[:6]), many + 2)
        self.assertEqual(live.played.woke, 0)
        # What happens then happens to the new sleeper.
        live.do("hum 1 up")
        self.assertEqual(live.played.state, ("woken",))

    def test_an_equal_one(self):
        live = begun()
        for many in range(3):
            self.assertIsNone(live.change(light()))
            self.assert_like(live, home(), light(), Walk(1, 1, "asleep"), many + 1)

    def test_the_first_state_is_the_new_ones(self):
        live = begun("dozing")
        live.do("tick")
        live.change(Sleeper([], 1, 5, 1, "again"))
        self.assertEqual(live.played.state, ("dozing", 4))
        live.undo()
        self.assertEqual(live.played.state, ("dozing", 2))


class Undo(LiveCase):
    def test_all_kinds_of_deeds(self):
        live = begun()
        other = Sleeper.read("stir 5 doze 2 near 1 loud wake gate soft")
        rows = [seen(live)]
        for deed in (lambda: live.do("step 0 0"), lambda: live.several(["tick", "step 0 1"]), lambda: live.several([]),
                     lambda: live.change(other), lambda: live.change(other), lambda: live.do("tick"),
                     lambda: live.change(light()), lambda: live.several(())):
            deed()
            rows.append(seen(live))
        self.assertEqual([row[-1] for row in rows], list(range(9)))
        while len(live) > 0:
            self.assertEqual(seen(live), rows[len(live)])
            self.assertIs(live.undo(), True)
        for _ in range(3):
            self.assertIs(live.undo(), False)
            self.assertEqual(seen(live), rows[0])
        self.assertEqual(live.do("tick"), ("asleep",))
        self.assert_like(live, home(), light(), Walk(1, 1, "asleep", ["tick"]), 1)

    def test_something_else_behind_it(self):
        live = begun()
        live.do("step 0 0")
        live.undo()
        live.do("step 1 0")
        self.assert_like(live, home(), light(), Walk(1, 1, "asleep", ["step 1 0"]), 1)
        live.undo()
        live.undo()
        self.assert_like(live, home(), light(), Walk(1, 1, "asleep"), 0)

    def test_who_made_a_step_is_taken_back_too(self):
        live = begun()
        live.do("step 0 0")
        live.do("tick")
        live.undo()
        self.assert_error(live, Refused, 1, live.do, "step 0 1")
        live.undo()
        self.assertEqual(live.do("step 0 0"), ("stirring", 2))


class Within(LiveCase):
    def assert_left(self, live, work):
        """That all is as it was ahead of a work; returns what it returned."""
        ahead = drained(live)
        told = live.within(work)
        self.assertEqual(drained(live), ahead)
        return told

    def assert_raises_on(self, live, kind, work):
        ahead = drained(live)
        with self.assertRaises(kind) as caught:
            live.within(work)
        self.assertEqual(drained(live), ahead)
        return caught.exception

    def filled(self):
        live = begun()
        live.do("step 0 0")
        live.several(["tick", "step 0 1"])
        live.change(Sleeper.read("stir 5 doze 2 near 1 loud wake gate soft"))
        return live

    def test_the_live_house_itself_is_passed(self):
        live = self.filled()
        self.assertIs(self.assert_left(live, lambda held: held), live)
        self.assertIsNone(self.assert_left(live, lambda held: None))
        things = [1, "a"]
        self.assertIs(self.assert_left(live, lambda held: things), things)

    def test_works_that_do_events(self):
        live = self.filled()
        self.assertEqual(self.assert_left(live, lambda held: held.do("tick")), ("stirring", 3))
        told = self.assert_left(live, lambda held: (held.several(["tick"] * 5), len(held), held.played.state))
        self.assertEqual(told[1:], (4, ("woken",)))
        # What is done outside of the work, with the same live house, is taken back as well.
        self.assert_left(live, lambda held: live.do("tick"))

    def test_works_that_take_back(self):
        live = self.filled()
        self.assertEqual(self.assert_left(live, lambda held: [held.undo() for _ in range(5)]),
                         [True, True, True, False, False])
        told = self.assert_left(live, lambda held: (held.undo(), held.undo(), held.do("tick"), len(held)))
        self.assertEqual(told, (True, True, ("stirring", 1), 2))
        self.assertEqual([live.undo() for _ in range(4)], [True, True, True, False])

    def test_works_that_change_the_sleeper(self):
        live = self.filled()
        self.assertEqual(self.assert_left(live, lambda held: (held.change(light()), held.sleeper)), (None, light()))
        self.assertEqual(str(live.sleeper), "stir 5 doze 2 near 1 loud wake gate soft")

    def test_works_within_works(self):
        live = self.filled()

        def inner(held):
            held.undo()
            held.do("tick")
            return seen(held)

        def outer(held):
            held.do("tick")
            ahead = seen(held)
            told = held.within(inner)
            self.assertEqual(seen(held), ahead)
            held.undo()
            held.undo()
            return told

        told = self.assert_left(live, outer)
        # The inner work takes back the tick of the outer one, and does one again.
        self.assertEqual((told[5], told[6], told[-1]), (("step 0 0", "tick", "step 0 1", "tick"), ("stirring", 3), 4))

    def test_works_that_raise(self):
        live = self.filled()

        def stops(held):
            held.undo()
            held.several(["tick", "tick"])
            held.change(light())
            raise Stop("here")

        self.assertEqual(str(self.assert_raises_on(live, Stop, stops)), "here")
        self.assertEqual(self.assert_raises_on(live, InvalidEvent, lambda held: (held.do("tick"), held.do("no"))).at, 4)
        error = self.assert_raises_on(live, Refused, lambda held: (held.undo(), held.several(["tick", "step 0 5"])))
        self.assertEqual(error.at, 1)
        self.assertEqual(self.assert_raises_on(live, Stop, lambda held: held.within(stops)).args, ("here",))
        for _ in range(5):
            live.undo()
        self.assertEqual(len(live), 0)
        self.assert_raises_on(live, Stop, stops)

    def test_an_error_that_a_work_catches(self):
        live = self.filled()

        def work(held):
            with self.assertRaises(Refused):
                held.within(lambda inner: (inner.undo(), inner.do("step 0 9")))
            return len(held)

        self.assertEqual(self.assert_left(live, work), 3)

    def test_two_live_houses(self):
        live, other = self.filled(), begun()
        self.assert_left(live, lambda held: (held.do("tick"), other.do("tick")))
        self.assert_like(other, home(), light(), Walk(1, 1, "asleep", ["tick"]), 1)

    def test_another_house(self):
        live = Live(House(1, [], [], [0]), light(), 0, 1, "asleep")
        self.assertEqual(live.within(lambda held: held.several(["hum 0 doze", "tick", "hum 0 up"])),
                         (("dozing", 3), ("dozing", 2), ("up",)))
        self.assert_like(live, House(1, [], [], [0]), light(), Walk(0, 1, "asleep"), 0)


if __name__ == "__main__":
    unittest.main()
