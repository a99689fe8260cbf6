"""Steps through the doors of a house: where they lead, and which noises they make."""


def beyond(house, number, room):
    """The room behind a door for somebody in this room, or None if there is no such door at it."""
    if number >= len(house.doors):
        return None
    one, other, noise = house.doors[number]
    if room == one:
        return other
    return one if room == other else None


def floor_noise(house, room):
    """The noise of the floor of a room, or None."""
    for place, noise in house.floors:
        if place == room:
            return noise
    return None


def noises_of_step(house, number, room):
    """The noises that a step through this door into this room makes, in their order."""
    one, other, noise = house.doors[number]
    return tuple([made for made in (noise, floor_noise(house, room)) if made is not None])


def all_steps(house):
    """All steps that can be made in a house: tuples (door, room left, room come into, noises)."""
    steps = []
    for number, (one, other, noise) in enumerate(house.doors):
        steps.append((number, one, other, noises_of_step(house, number, other)))
        steps.append((number, other, one, noises_of_step(house, number, one)))
    return steps
