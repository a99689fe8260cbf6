"""Tables: standings that show that no guest comes to a room unheard."""

from hushsteps.doors import all_steps
from hushsteps.forms import is_tuple_of
from hushsteps.houses import is_room
from hushsteps.sleepers import is_state
from hushsteps.standings import Search, begin, behind_step, behind_tick


def table(house, sleeper, first, room):
    """Some right table, or None if a guest can come to the room unheard."""
    search = Search(house, sleeper, first)
    standings = tuple(search.found)
    return standings if is_without(standings, room) else None


def table_holds(house, sleeper, first, room, value):
    """Whether any value is a right table."""
    if not isinstance(value, tuple) or not all([is_standing(house, sleeper, standing) for standing in value]):
        return False
    held = {standing: True for standing in value}
    if len(held) != len(value) or begin(sleeper, first) not in held or not is_without(value, room):
        return False
    steps = all_steps(house)
    return all([is_led_on(sleeper, steps, held, standing) for standing in value])


def is_without(standings, room):
    """Whether a room is in none of the lots of standings."""
    # What has begun is within what is now.
    return not any([room in now for state, begun, now in standings])


def is_lot(rooms, value):
    """Whether any value is a lot of rooms of a house with so many rooms."""
    if not isinstance(value, tuple) or not all([is_room(rooms, room) for room in value]):
        return False
    return all([room < other for room, other in zip(value, value[1:])])


def is_standing(house, sleeper, value):
    """Whether any value is of the form of a standing in which the sleeper is not woken."""
    if not is_tuple_of(value, 3):
        return False
    state, begun, now = value
    if not is_state(sleeper, state) or not is_lot(house.rooms, begun) or not is_lot(house.rooms, now):
        return False
    return len(begun) > 0 and all([room in now for room in begun])


def is_led_on(sleeper, steps, held, standing):
    """Whether all that comes behind a standing, but for waking, is among the held ones."""
    if not is_held(held, behind_tick(sleeper, standing)):
        return False
    return all([is_held(held, behind_step(sleeper, standing, step)) for step in steps])


def is_held(held, standing):
    """Whether a standing is among the held ones; None is what needs none."""
    return standing is None or standing in held
