"""Tests of the whole program: what its parts tell of a house and a sleeper agrees, whatever is asked in between."""

import random
import unittest

from hushsteps.boards import least_noises, needless, safe_mends
from hushsteps.comparing import alike, parting
from hushsteps.desk import Desk
from hushsteps.errors import HushError
from hushsteps.guests import fewest, unheard, way
from hushsteps.houses import House
from hushsteps.live import Live
from hushsteps.noises import first_wrong, possible, where
from hushsteps.nurses import bar, bar_holds, deeds_needed, plan, plan_holds, sure
from hushsteps.sleepers import Sleeper, first_state, heard, hummed, ticked
from hushsteps.tables import table, table_holds
from hushsteps.times import greatest_stir, least_stir
from hushsteps.walks import Walk, play
from samples import (
    FIRSTS, hard_errands, helped_nights, home, light, small_errands, small_nights, small_sleeper,
)


def lots_of(played):
    """The row of lots that was heard, up to the tick that is next."""
    return [sorted({noise for at, noise in played.made if at == tick}) for tick in range(played.ticks + 1)]


def answers(house, sleeper, first, room, slow, goal):
    """What the questions about a house and a sleeper tell."""
    start = (0, first)
    walk = way(house, sleeper, first, room)
    return [
        str(house), str(sleeper), len(house), house.noises, unheard(house, sleeper, first),
        fewest(house, sleeper, first, room), None if walk is None else walk.events, table(house, sleeper, first, room),
        deeds_needed(house, sleeper, slow, start, goal), sure(house, sleeper, slow, start, goal),
        plan(house, sleeper, slow, start, goal), bar(house, sleeper, slow, start, goal),
        least_stir(house, sleeper, slow, start, goal), greatest_stir(house, sleeper, first, room),
        least_noises(house, sleeper, first, room), needless(house, sleeper, first),
        safe_mends(house, sleeper, slow, start, goal), alike(sleeper, light()), parting(sleeper, light()),
        possible(house, [house.noises]), first_wrong(house, [[], house.noises]), where(house, [[], []]),
    ]


class Guests(unittest.TestCase):
    def assert_way(self, house, sleeper, first, room):
        """That the told way comes to its room with nobody woken, played and live, and by noises that are possible."""
        walk = way(house, sleeper, first, room)
        played = play(house, sleeper, walk)
        self.assertIn(room, played.places)
        self.assertEqual((played.woke, played.ticks), (None, fewest(house, sleeper, first, room)))
        live = Live(house, sleeper, walk.guests, walk.nurses, first)
        states = live.several(walk.events)
        self.assertNotIn(("woken",), states)
        self.assertEqual((live.walk, live.played.places, live.played.state), (walk, played.places, played.state))
        self.assertIs(possible(house, lots_of(played)), True)
        self.assertTrue(set(played.places) <= set(where(house, lots_of(played))))

    def assert_night(self, house, sleeper, first):
        rooms = unheard(house, sleeper, first)
        for room in range(house.rooms):
            if room in rooms:
                self.assert_way(house, sleeper, first, room)
                self.assertIsNone(table(house, sleeper, first, room))
                self.assertNotIn(house.noises, least_noises(house, sleeper, first, room))
            else:
                self.assertIsNone(way(house, sleeper, first, room))
                self.assertIsNone(fewest(house, sleeper, first, room))
                value = table(house, sleeper, first, room)
                self.assertIs(table_holds(house, sleeper, first, room, value), True)
                self.assertNotEqual(least_noises(house, sleeper, first, room), ())

    def test_small_houses(self):
        for house, sleeper, first in small_nights(101, 150, 4, 4):
            self.assert_night(house, sleeper, first)

    def test_houses_with_helpers(self):
        for house, sleeper, first in helped_nights(102, 100):
            self.assert_night(house, sleeper, first)

    def test_at_a_desk(self):
        for house, sleeper, first in small_nights(103, 100):
            desk = Desk()
            desk.say("house " + str(house).replace("\n", " ; "))
            desk.say(f"sleeper {sleeper}")
            for room in unheard(house, sleeper, first):
                walk = way(house, sleeper, first, room)
                desk.say(f"begin {walk.guests} 0 {first}")
                told = [desk.say(f"do {event}") for event in walk.events]
                self.assertNotIn("woken", told)
                places = [desk.say(f"place {person}") for person in range(walk.guests)]
                self.assertIn(str(room), places)
                self.assertEqual(desk.say(f"fewest {first} {room}"), str(walk.events.count("tick")))

    def test_alike_sleepers_hear_the_same(self):
        chance = random.Random(104)
        pairs = 0
        for house, p, _ in small_nights(105, 300):
            q = small_sleeper(chance, ["a", "b"])
            if alike(p, q):
                pairs += 1
                self.assertEqual(unheard(house, p, "asleep"), unheard(house, q, "asleep"))
                self.assertEqual(unheard(house, p, "up"), unheard(house, q, "up"))
        self.assertGreater(pairs, 2)


class Nurses(unittest.TestCase):
    def followed(self, chance, errand):
        """Follows a plan live, however slow she happens to be; a slow door is a tick in the midst of a step."""
        house, sleeper, slow, start, goal = errand
        rows = {place: (deed, rank) for place, deed, rank in plan(*errand)}
        place = (start[0], first_state(sleeper, start[1]), True)
        deeds = 0
        while (place[0], place[1][0]) != goal:
            deed, rank = rows[place]
            place = self.done(chance, house, sleeper, slow, place, deed)
            self.assertNotEqual(place[1], ("woken",))
            deeds += 1
        return deeds

    def done(self, chance, house, sleeper, slow, place, deed):
        room, state, free = place
        kind, _, word = deed.partition(" ")
        if kind == "wait":
            return (room, ticked(sleeper, state), True)
        if kind == "hum":
            self.assertIn(room, house.cradles)
            return (room, hummed(sleeper, state, word), free)
        self.assertIs(free, True)
        one, other, noise = house.doors[int(word)]
        self.assertIn(room, (one, other))
        state = state if noise is None else heard(sleeper, state, noise)
        for _ in range(chance.randint(0, slow)):
            state = ticked(sleeper, state)
        for _, floor in [pair for pair in house.floors if pair[0] == one + other - room]:
            state = heard(sleeper, state, floor)
        return (one + other - room, state, False)

    def test_plans_come_to_their_goals(self):
        chance = random.Random(106)
        for errands in (small_errands(107, 200), hard_errands(108, 150)):
            for errand in errands:
                needed = deeds_needed(*errand)
                if needed is None:
                    self.assertIs(bar_holds(*errand, bar(*errand)), True)
                else:
                    self.assertIs(plan_holds(*errand, plan(*errand)), True)
                    for _ in range(3):
                        self.assertLessEqual(self.followed(chance, errand), needed)

    def test_plans_of_a_quick_nurse_are_walks(self):
        for house, sleeper, _, start, goal in hard_errands(109, 200):
            value = plan(house, sleeper, 0, start, goal)
            if value is None:
                continue
            rows = {place: deed for place, deed, rank in value}
            live = Live(house, sleeper, 0, 1, start[1])
            place = (start[0], live.played.state, True)
            while (place[0], place[1][0]) != goal:
                kind, _, word = rows[place].partition(" ")
                event = {"wait": "tick", "hum": f"hum 0 {word}", "door": f"step 0 {word}"}[kind]
                state = live.do(event)
                free = {"wait": True, "hum": place[2], "door": False}[kind]
                place = (live.played.places[0], state, free)
            self.assertIsNone(live.played.woke)
            self.assertLessEqual(len(live), deeds_needed(house, sleeper, 0, start, goal))


class AskedAgain(unittest.TestCase):
    def test_the_same_answers_behind_others(self):
        chance = random.Random(110)
        nights = list(small_nights(111, 25))
        asked = [(house, sleeper, first, chance.randrange(house.rooms), chance.randrange(3),
                  (chance.randrange(house.rooms), chance.choice(FIRSTS))) for house, sleeper, first in nights]
        told = [answers(*question) for question in asked]
        for at in chance.sample(range(len(asked)), len(asked)):
            self.assertEqual(answers(*asked[at]), told[at])
        # So do equal ones that are made anew, also behind errors.
        for at, (house, sleeper, first, room, slow, goal) in enumerate(asked):
            with self.assertRaises(HushError):
                House(0, [])
            with self.assertRaises(HushError):
                play(house, sleeper, Walk(1, 0, first, ["step 0 99"]))
            again = (House.read(str(house)), Sleeper.read(str(sleeper)), first, room, slow, goal)
            self.assertEqual(answers(*again), told[at])

    def test_of_a_live_house_while_it_stays(self):
        live = Live(home(), light(), 1, 1, "asleep")
        live.several(["step 0 0", "tick"])
        ahead = (live.walk, live.played.state, live.played.made, len(live))
        answers(live.house, live.sleeper, "asleep", 2, 1, (2, "up"))
        Live(live.house, live.sleeper, 1, 1, "asleep").do("tick")
        self.assertEqual((live.walk, live.played.state, live.played.made, len(live)), ahead)


if __name__ == "__main__":
    unittest.main()
