"""Standings of guests: tuples of the state, the rooms since the last tick began, and the rooms now.

Of any number of guests only these lots matter: who goes through a door together makes its noises as one does, and who
stays behind never hinders.
"""

from hushsteps.doors import all_steps
from hushsteps.sleepers import WOKEN, first_state, heard_all, ticked


def begin(sleeper, first):
    """The standing at the beginning: everybody is in the street."""
    return (first_state(sleeper, first), (0,), (0,))


def with_room(lot, room):
    """A lot of rooms with one more."""
    return lot if room in lot else tuple(sorted(lot + (room,)))


def behind_step(sleeper, standing, step):
    """The standing behind a step, or None if nobody can make it or it wakes the sleeper."""
    state, begun, now = standing
    number, left, room, noises = step
    if left not in begun:
        return None
    behind = heard_all(sleeper, state, noises)
    return None if behind == WOKEN else (behind, begun, with_room(now, room))


def behind_tick(sleeper, standing):
    """The standing behind a tick, or None if it wakes the sleeper."""
    state, begun, now = standing
    behind = ticked(sleeper, state)
    return None if behind == WOKEN else (behind, now, now)


class Search:
    """All standings that come, found by their numbers of ticks.

    found tells for each of them, in this order, its number of ticks, the standing ahead of it, and the step between
    them (None for a tick).
    """

    def __init__(self, house, sleeper, first):
        self.own_sleeper = sleeper
        self.steps = all_steps(house)
        start = begin(sleeper, first)
        self.found = {start: (0, None, None)}
        layer = [start]
        ticks = 0
        while len(layer) > 0:
            self.spread(layer, ticks)
            ticks += 1
            layer = self.following(layer, ticks)

    def spread(self, layer, ticks):
        """Puts behind the standings of a list those that come from them by steps alone."""
        at = 0
        while at < len(layer):
            for step in self.steps:
                behind = behind_step(self.own_sleeper, layer[at], step)
                if behind is not None and behind not in self.found:
                    self.found[behind] = (ticks, layer[at], step)
                    layer.append(behind)
            at += 1

    def following(self, layer, ticks):
        """The standings that come from those of a list by a tick for the first time."""
        later = []
        for standing in layer:
            behind = behind_tick(self.own_sleeper, standing)
            if behind is not None and behind not in self.found:
                self.found[behind] = (ticks, standing, None)
                later.append(behind)
        return later
