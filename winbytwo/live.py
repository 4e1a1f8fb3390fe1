"""Live matches that are played point by point, and books of matches."""

from winbytwo.errors import InvalidNumber, InvalidSide, MatchOver, NothingToUndo
from winbytwo.reduced import reduced
from winbytwo.rules import add_point, check_rule, play, start_scores


class LiveMatch:
    """A match that is played."""

    def __init__(self, rule):
        # Two rules are the same exactly if their reduced rules are equal.
        self._short = reduced(rule)
        self._rule = list(rule)
        self._letters = ""
        self._winner = None
        # The lists of the scores at the start and after each point.
        self._told = [start_scores(rule)]

    def __eq__(self, other):
        return (isinstance(other, LiveMatch) and self._short == other._short
                and self._letters == other._letters)

    @property
    def points(self):
        """The string of the points so far."""
        return self._letters

    @property
    def winner(self):
        """The winner of the match, None if it is not over."""
        return self._winner

    @property
    def scores(self):
        """A new list of the scores of all races."""
        return list(self._told[-1])

    def point(self, *sides):
        """Let sides score points, in order: all of them, or none at an error."""
        for index, side in enumerate(sides):
            if side not in ("A", "B"):
                raise InvalidSide(index)
        winner = self._winner
        scores = self._told[-1]
        told = []
        for side in sides:
            if winner is not None:
                raise MatchOver(len(self._letters) + len(told))
            scores, over = add_point(self._rule, scores, side)
            told.append(scores)
            if over:
                winner = side
        self._letters += "".join(sides)
        self._winner = winner
        self._told.extend(told)

    def undo(self):
        """Take back the last point."""
        if not self._letters:
            raise NothingToUndo(0)
        self._letters = self._letters[:-1]
        self._winner = None
        self._told.pop()

    @classmethod
    def replay(cls, rule, points):
        """Return a match with these points."""
        play(rule, points)
        live = cls(rule)
        live.point(*points)
        return live

    def leads(self):
        """Yield the lead of A in points at the start and after each point."""
        lead = 0
        yield lead
        for side in self._letters:
            if side == "A":
                lead += 1
            else:
                lead -= 1
            yield lead


class MatchBook:
    """A book of matches of one rule."""

    def __init__(self, rule):
        check_rule(rule)
        self._rule = list(rule)
        self._matches = []

    def add(self, points):
        """Add a match."""
        winner, _ = play(self._rule, points)
        if winner is None:
            raise InvalidNumber(None)
        self._matches.append(points)

    def remove(self, number):
        """Remove the match with a number and return its points."""
        if not 0 <= number < len(self._matches):
            raise InvalidNumber(number)
        return self._matches.pop(number)

    @property
    def wins(self):
        """The numbers of matches that A and B have won."""
        # Who scores the last point of a match wins it.
        lasts = [points[-1] for points in self._matches]
        return lasts.count("A"), lasts.count("B")

    @property
    def totals(self):
        """The numbers of points that A and B have won."""
        return (sum([points.count("A") for points in self._matches]),
                sum([points.count("B") for points in self._matches]))

    def upsets(self):
        """Yield the points of the matches whose winner has fewer points."""
        for points in self._matches:
            winner = points[-1]
            if 2 * points.count(winner) < len(points):
                yield points
