"""Noises that were told: whether guests can have made them, and where they can be then."""

from hushsteps.doors import all_steps
from hushsteps.errors import InvalidNoises
from hushsteps.forms import are_unlike, is_name, is_row


def possible(house, lots):
    """Whether some walk of any number of guests makes just these noises between its ticks."""
    return first_wrong(house, lots) is None


def first_wrong(house, lots):
    """The number of the first lot behind which the row so far is not possible any more, or None."""
    behind = rooms_behind(house, lots)
    return len(behind) if len(behind) < len(lots) else None


def where(house, lots):
    """The lot of all rooms in which a guest can be behind the row, ahead of the next tick, or None."""
    behind = [(0,)] + rooms_behind(house, lots)
    return behind[-1] if len(behind) > len(lots) else None


def rooms_behind(house, lots):
    """The lots of rooms in which a guest can be behind each lot of noises, as long as the row is possible."""
    check(lots)
    steps = all_steps(house)
    behind = []
    rooms = (0,)
    for noises in lots:
        made = quiet_steps(steps, rooms, noises)
        if not all([is_made(made, noise) for noise in noises]):
            return behind
        rooms = tuple(sorted(set(list(rooms) + [room for number, left, room, heard in made])))
        behind.append(rooms)
    return behind


def quiet_steps(steps, rooms, noises):
    """The steps from these rooms that make no other noises."""
    return [step for step in steps if step[1] in rooms and all([noise in noises for noise in step[3]])]


def is_made(steps, noise):
    """Whether one of the steps makes a noise."""
    return any([noise in step[3] for step in steps])


def check(lots):
    """Raises an error if any value is no row of lots."""
    if not is_row(lots):
        raise InvalidNoises(0)
    for at, noises in enumerate(lots):
        if not are_noises(noises):
            raise InvalidNoises(at)


def are_noises(value):
    """Whether any value is a sequence of unlike names."""
    return is_row(value) and all([is_name(name) for name in value]) and are_unlike(value)
