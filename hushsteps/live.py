"""Live houses: walks that go on, and can be taken back."""

from hushsteps.errors import InvalidEvent, Refused
from hushsteps.forms import is_row
from hushsteps.walks import Walk, play


def led_on(house, scene, event):
    """What a live house is behind an event: its sleeper, its walk, and what the walk led to."""
    sleeper, walk, played = scene
    # The errors of both have the number of events so far, as only the last event can be wrong.
    longer = walk.further([event])
    return (sleeper, longer, play(house, sleeper, longer))


class Live:
    """A walk that goes on in a house."""

    def __init__(self, house, sleeper, guests, nurses, first):
        walk = Walk(guests, nurses, first)
        self.own_house = house
        self.scene = (sleeper, walk, play(house, sleeper, walk))
        # The scenes ahead of each deed; it is a tuple, so that what is kept of it never changes.
        self.past = ()

    @property
    def house(self):
        """The house."""
        return self.own_house

    @property
    def sleeper(self):
        """The sleeper to whom the walk happens."""
        return self.scene[0]

    @property
    def walk(self):
        """The walk so far."""
        return self.scene[1]

    @property
    def played(self):
        """What the walk led to so far."""
        return self.scene[2]

    def do(self, event):
        """Does an event and returns the state behind it."""
        scene = led_on(self.own_house, self.scene, event)
        self.become(scene)
        return scene[2].state

    def several(self, events):
        """Does all events of a sequence, or none, and returns the tuple of the states behind them."""
        if not is_row(events):
            raise Refused(0)
        scene = self.scene
        states = []
        for at, event in enumerate(events):
            try:
                scene = led_on(self.own_house, scene, event)
            except (InvalidEvent, Refused) as error:
                raise Refused(at) from error
            states.append(scene[2].state)
        self.become(scene)
        return tuple(states)

    def change(self, sleeper):
        """Lets the same walk happen to another sleeper."""
        self.become((sleeper, self.walk, play(self.own_house, sleeper, self.walk)))

    def undo(self):
        """Takes back the last deed; returns whether there was one."""
        if len(self.past) == 0:
            return False
        self.scene = self.past[-1]
        self.past = self.past[:-1]
        return True

    def within(self, work):
        """Returns what the work returns; behind it all is as it was ahead."""
        scene = self.scene
        past = self.past
        try:
            return work(self)
        finally:
            self.scene = scene
            self.past = past

    def become(self, scene):
        """Makes a scene the one of now, in a deed that can be taken back."""
        self.past = self.past + (self.scene,)
        self.scene = scene

    def __len__(self):
        return len(self.past)
