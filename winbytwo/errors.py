"""The errors of the program; what was wrong is in the attribute `value`."""


class MatchError(ValueError):
    """Stands above all errors of the program."""


class InvalidRace(MatchError):
    """A tuple is not a race: its index in a rule, or None for a race alone."""

    def __init__(self, value):
        self.value = value


class InvalidPoints(MatchError):
    """A character is neither A nor B: its index in the string."""

    def __init__(self, value):
        self.value = value


class InvalidScore(MatchError):
    """A score cannot occur where it was passed: the score."""

    def __init__(self, value):
        self.value = value


class InvalidSide(MatchError):
    """A side is neither A nor B: the side, or its index among several."""

    def __init__(self, value):
        self.value = value


class InvalidNumber(MatchError):
    """A number is out of its range: the number, or None where none was passed."""

    def __init__(self, value):
        self.value = value


class MatchOver(MatchError):
    """The match is over too early: the number of points after which it is."""

    def __init__(self, value):
        self.value = value


class NothingToUndo(MatchError):
    """There is no point to take back: 0, the number of points."""

    def __init__(self, value):
        self.value = value


class Unreadable(MatchError):
    """No rule or list of scores has this text: the text."""

    def __init__(self, value):
        self.value = value
