"""Times: how long stirring must last for a nurse to be sure, and may last for a room to be kept."""

from hushsteps.guests import unheard
from hushsteps.nurses import sure
from hushsteps.sleepers import Sleeper

# The times that are tried.
SHORTEST = 1
LONGEST = 5


def stirring_for(sleeper, stir):
    """The sleeper who stirs for so many ticks instead, and is the same otherwise."""
    return Sleeper(sleeper.sorts, stir, sleeper.doze, sleeper.near, sleeper.loud)


def least_stir(house, sleeper, slow, start, goal):
    """The least time of stirring, from 1 to 5, with which the nurse is sure, or None."""
    for stir in range(SHORTEST, LONGEST + 1):
        if sure(house, stirring_for(sleeper, stir), slow, start, goal):
            return stir
    return None


def greatest_stir(house, sleeper, first, room):
    """The greatest time of stirring, from 1 to 5, with which no guest comes to the room unheard, or None."""
    for stir in range(LONGEST, SHORTEST - 1, -1):
        if room not in unheard(house, stirring_for(sleeper, stir), first):
            return stir
    return None
