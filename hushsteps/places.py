"""Places of a nurse: triples of her room, the state, and whether she can go through a door now."""

from hushsteps.doors import beyond, floor_noise
from hushsteps.forms import is_tuple_of
from hushsteps.houses import is_room
from hushsteps.sleepers import HUMMED, WOKEN, first_state, heard, hummed, is_state, ticked


def beginning(sleeper, start):
    """The place at which she begins."""
    room, first = start
    return (room, first_state(sleeper, first), True)


def is_goal(goal, place):
    """Whether she is at the goal at a place."""
    room, word = goal
    return place[0] == room and place[1][0] == word


def is_place(house, sleeper, value):
    """Whether any value is of the form of a place at which the sleeper is not woken."""
    if not is_tuple_of(value, 3):
        return False
    room, state, free = value
    return is_room(house.rooms, room) and is_state(sleeper, state) and isinstance(free, bool)


def deeds_at(house, sleeper, slow, place):
    """What she can do at a place: a dict from each deed to the tuple of its outcomes."""
    room, state, free = place
    deeds = {"wait": ((room, ticked(sleeper, state), True),)}
    if room in house.cradles:
        for word in HUMMED:
            deeds[f"hum {word}"] = ((room, hummed(sleeper, state, word), free),)
    if free:
        for number in range(len(house)):
            if beyond(house, number, room) is not None:
                deeds[f"door {number}"] = door_outcomes(house, sleeper, slow, number, place)
    return deeds


def door_outcomes(house, sleeper, slow, number, place):
    """The places behind a door at her room: one for each number of ticks that can go by between its two noises."""
    room = beyond(house, number, place[0])
    state = heard_if_any(sleeper, place[1], house.doors[number][2])
    outcomes = []
    for _ in range(slow + 1):
        outcomes.append((room, heard_if_any(sleeper, state, floor_noise(house, room)), False))
        state = ticked(sleeper, state)
    return tuple(outcomes)


def heard_if_any(sleeper, state, noise):
    """The state behind a noise, or behind none (None)."""
    return state if noise is None else heard(sleeper, state, noise)


def wakes(outcomes):
    """Whether the sleeper is woken in one of the outcomes of a deed."""
    return any([state == WOKEN for room, state, free in outcomes])


def quiet_deeds(house, sleeper, slow, place):
    """The deeds that she can do at a place without waking the sleeper, whatever the outcome, with their outcomes."""
    deeds = deeds_at(house, sleeper, slow, place)
    return {deed: outcomes for deed, outcomes in deeds.items() if not wakes(outcomes)}


def places_ahead(house, sleeper, slow, start, goal):
    """All places ahead of the goal to which quiet deeds lead from the beginning, with their quiet deeds."""
    found = {}
    places = [beginning(sleeper, start)]
    at = 0
    while at < len(places):
        place = places[at]
        if place not in found and not is_goal(goal, place):
            found[place] = quiet_deeds(house, sleeper, slow, place)
            for outcomes in found[place].values():
                places.extend(outcomes)
        at += 1
    return found
