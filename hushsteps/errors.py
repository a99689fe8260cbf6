"""The errors of this package."""


class HushError(ValueError):
    """The base class of all errors of this package."""


class InvalidHouse(HushError):
    """An argument of a house is wrong: word is its parameter name."""

    def __init__(self, word):
        self.word = word


class InvalidSleeper(HushError):
    """An argument of a sleeper is wrong: word is its parameter name."""

    def __init__(self, word):
        self.word = word


class InvalidWalk(HushError):
    """An argument of a walk is wrong: word is its parameter name."""

    def __init__(self, word):
        self.word = word


class InvalidEvent(HushError):
    """Something is no event: at is its number."""

    def __init__(self, at):
        self.at = at


class InvalidText(HushError):
    """A text has not its form: at is the number of the line."""

    def __init__(self, at):
        self.at = at


class InvalidNoises(HushError):
    """Something is no lot of noises: at is its number."""

    def __init__(self, at):
        self.at = at


class InvalidCommand(HushError):
    """A command is of no form, or wants what is lacking."""


class Refused(HushError):
    """An event is not possible: at is its number."""

    def __init__(self, at):
        self.at = at
