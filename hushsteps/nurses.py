"""Nurses: whether one of them can surely come to a goal with nobody woken, and how that is shown."""

from hushsteps.forms import is_positive, is_tuple_of
from hushsteps.places import beginning, deeds_at, is_goal, is_place, places_ahead, wakes


def deeds_needed(house, sleeper, slow, start, goal):
    """The least number of deeds with which she surely comes to the goal, or None if she can't be sure."""
    begin = beginning(sleeper, start)
    if is_goal(goal, begin):
        return 0
    chosen = sure_deeds(places_ahead(house, sleeper, slow, start, goal), goal)
    return chosen[begin][1] if begin in chosen else None


def sure(house, sleeper, slow, start, goal):
    """Whether she can surely come to the goal."""
    return deeds_needed(house, sleeper, slow, start, goal) is not None


def plan(house, sleeper, slow, start, goal):
    """Some plan whose greatest rank is the least number of deeds that she needs, or None if she can't be sure."""
    begin = beginning(sleeper, start)
    if is_goal(goal, begin):
        return ()
    ahead = places_ahead(house, sleeper, slow, start, goal)
    chosen = sure_deeds(ahead, goal)
    return entries_from(begin, ahead, chosen) if begin in chosen else None


def plan_holds(house, sleeper, slow, start, goal, value):
    """Whether any value is a plan."""
    if not isinstance(value, tuple) or not all([is_entry(house, sleeper, entry) for entry in value]):
        return False
    ranks = {place: rank for place, deed, rank in value}
    begin = beginning(sleeper, start)
    if len(ranks) != len(value) or not (begin in ranks or is_goal(goal, begin)):
        return False
    return all([leads_down(deeds_at(house, sleeper, slow, entry[0]), ranks, goal, entry) for entry in value])


def bar(house, sleeper, slow, start, goal):
    """Some bar, or None if she can be sure."""
    begin = beginning(sleeper, start)
    if is_goal(goal, begin):
        return None
    ahead = places_ahead(house, sleeper, slow, start, goal)
    chosen = sure_deeds(ahead, goal)
    if begin in chosen:
        return None
    return tuple([place for place in ahead if place not in chosen])


def bar_holds(house, sleeper, slow, start, goal, value):
    """Whether any value is a bar."""
    if not isinstance(value, tuple) or not all([is_place(house, sleeper, place) for place in value]):
        return False
    held = {place: True for place in value}
    if len(held) != len(value) or beginning(sleeper, start) not in held:
        return False
    if any([is_goal(goal, place) for place in value]):
        return False
    return all([is_barred(deeds_at(house, sleeper, slow, place), held) for place in value])


def sure_deeds(ahead, goal):
    """The deeds by which she is sure, with the least ranks that they can have, for places ahead of the goal.

    They are found in rounds, those of the least rank first, until no more are found.
    """
    chosen = {}
    rank = 1
    fresh = next_deeds(ahead, chosen, goal)
    while len(fresh) > 0:
        for place, deed in fresh:
            chosen[place] = (deed, rank)
        rank += 1
        fresh = next_deeds(ahead, chosen, goal)
    return chosen


def next_deeds(ahead, chosen, goal):
    """The pairs (place, deed) of the places that are not chosen so far, but from which some deed makes her sure."""
    deeds = [(place, sure_deed(ahead[place], chosen, goal)) for place in ahead if place not in chosen]
    return [(place, deed) for place, deed in deeds if deed is not None]


def sure_deed(deeds, chosen, goal):
    """The first deed all of whose outcomes are the goal or chosen places, or None."""
    for deed, outcomes in deeds.items():
        if all([place in chosen or is_goal(goal, place) for place in outcomes]):
            return deed
    return None


def entries_from(begin, ahead, chosen):
    """The entries of a plan for the places that the chosen deeds lead to from the beginning on."""
    entries = {}
    places = [begin]
    at = 0
    while at < len(places):
        place = places[at]
        # What is not chosen is the goal, as all that is led to is sure.
        if place in chosen and place not in entries:
            deed, rank = chosen[place]
            entries[place] = (place, deed, rank)
            places.extend(ahead[place][deed])
        at += 1
    return tuple(entries.values())


def is_entry(house, sleeper, value):
    """Whether any value is of the form of an entry of a plan."""
    if not is_tuple_of(value, 3):
        return False
    place, deed, rank = value
    return is_place(house, sleeper, place) and isinstance(deed, str) and is_positive(rank)


def leads_down(deeds, ranks, goal, entry):
    """Whether the deed of an entry of a plan can be done, and leads to the goal or to lesser ranks alone."""
    place, deed, rank = entry
    if deed not in deeds:
        return False
    # Where the sleeper is woken is neither the goal nor a place that has a rank.
    return all([is_goal(goal, behind) or (behind in ranks and ranks[behind] < rank) for behind in deeds[deed]])


def is_barred(deeds, held):
    """Whether each deed has an outcome in which the sleeper is woken or that is a held place."""
    for outcomes in deeds.values():
        if not wakes(outcomes) and not any([place in held for place in outcomes]):
            return False
    return True
