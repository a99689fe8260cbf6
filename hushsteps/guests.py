"""Guests: to which rooms one of any number of them can come unheard, and how."""

from hushsteps.standings import Search
from hushsteps.walks import Walk


def unheard(house, sleeper, first):
    """The lot of all rooms in which a guest can be at some moment, with the sleeper not woken until then."""
    search = Search(house, sleeper, first)
    return tuple(sorted({room for state, begun, now in search.found for room in now}))


def fewest(house, sleeper, first, room):
    """The least number of ticks by which a guest can be in a room unheard, or None."""
    search = Search(house, sleeper, first)
    standing = first_with(search, room)
    return None if standing is None else search.found[standing][0]


def way(house, sleeper, first, room):
    """Some walk with the fewest ticks by which a guest comes to a room unheard, or None."""
    search = Search(house, sleeper, first)
    standing = first_with(search, room)
    if standing is None:
        return None
    moves = moves_to(search, standing)
    trails = all_trails(moves, room)
    return Walk(len(trails), 0, first, events_of(moves, trails))


def first_with(search, room):
    """The first standing found in which a guest can be in a room, or None."""
    for standing in search.found:
        if room in standing[2]:
            return standing
    return None


def moves_to(search, standing):
    """The steps and ticks (None) that lead to a standing, from the beginning on."""
    moves = []
    ticks, ahead, step = search.found[standing]
    while ahead is not None:
        moves.append(step)
        ticks, ahead, step = search.found[ahead]
    return moves[::-1]


def trail_to(moves, room):
    """The numbers of the steps by which somebody comes to a room as soon as anybody does."""
    if room == 0:
        return []
    at = first_into(moves, room)
    return trail_to(moves, moves[at][1]) + [at]


def first_into(moves, room):
    """The number of the first step into a room; there is one."""
    at = 0
    while moves[at] is None or moves[at][2] != room:
        at += 1
    return at


def all_trails(moves, room):
    """The numbers of the steps of each guest: the first one comes to the room, the others make the other steps."""
    trails = [trail_to(moves, room)]
    for at, step in enumerate(moves):
        if step is not None and not any([at in trail for trail in trails]):
            trails.append(trail_to(moves, step[1]) + [at])
    return trails


def events_of(moves, trails):
    """The events of a walk in which each guest makes the steps of one of the trails."""
    events = []
    for at, step in enumerate(moves):
        if step is None:
            events.append("tick")
        else:
            events.extend([f"step {guest} {step[0]}" for guest, trail in enumerate(trails) if at in trail])
    return events
