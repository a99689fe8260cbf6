"""Boards: which noises are enough to keep guests from a room, and which can be mended."""

from itertools import combinations

from hushsteps.guests import unheard
from hushsteps.nurses import sure


def with_noises(house, names):
    """The house in which the noises of these names alone are made."""
    return house.mended([noise for noise in house.noises if noise not in names])


def has_part(names, sets):
    """Whether one of several sets of names is a part of these names."""
    return any([all([name in names for name in part]) for part in sets])


def least_noises(house, sleeper, first, room):
    """All least sets of names of noises with which no guest comes to the room unheard."""
    names = list(house.noises)
    least = []
    for many in range(len(names) + 1):
        # Sets as long as this one are no parts of it, so only shorter ones can stand in its way.
        for chosen in combinations(names, many):
            if not has_part(chosen, least) and room not in unheard(with_noises(house, chosen), sleeper, first):
                least.append(chosen)
    return tuple(least)


def needless(house, sleeper, first):
    """The names of the noises that can be mended, each alone, so that guests come to the same rooms unheard."""
    rooms = unheard(house, sleeper, first)
    return tuple([noise for noise in house.noises if unheard(house.mended([noise]), sleeper, first) == rooms])


def safe_mends(house, sleeper, slow, start, goal):
    """The names of the noises that can be mended, each alone, so that the nurse is sure."""
    return tuple([noise for noise in house.noises if sure(house.mended([noise]), sleeper, slow, start, goal)])
