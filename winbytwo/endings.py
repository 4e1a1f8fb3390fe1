"""Endings: in how many ways a match can go on until it is over."""

from winbytwo.races import future_score
from winbytwo.rules import add_unit, wins_race
from winbytwo.series import constant, plus, powers, times, times_at, ways_to_win, weighed


def swapped(score):
    """Return a score with the names of the sides exchanged."""
    a, b = score
    return (b, a)


def other_side(side):
    """Return the name of the other side."""
    if side == "A":
        return "B"
    return "A"


def most_units(race, limit):
    """Return how many units a race may have, at most `limit` of them."""
    n, m = race
    # A lead of one unit decides the race at 2 * n - 1 units at the latest.
    if m == 1:
        return min(limit, 2 * n - 1)
    return limit


class Endings:
    """The ways in which a match of a rule ends within `most` points."""

    def __init__(self, rule, most):
        self.rule = list(rule)
        self.most = most
        # For each level: the series of 0, 1, .. units in a row.
        self.units = []
        # For each level: what units do to open scores.
        self.steps = [{} for _ in rule]
        # Series that were worked out: by level and score of one race, and by
        # the scores of a race and of all above.
        self.races = {}
        self.matches = {}
        self.add_units()

    def add_units(self):
        """Work out the series of the units of all levels."""
        unit = ([0, 1] + [0] * self.most)[:self.most + 1]
        shortest = 1
        for level, race in enumerate(self.rule):
            self.units.append(powers(unit, most_units(race, self.most // shortest)))
            unit = self.race_series(level, (0, 0))
            shortest = shortest * race[0]

    def race_series(self, level, score):
        """Return the series of the ways in which A wins the race of a level
        from an open score on, while the races below are at their start."""
        race = self.rule[level]
        key = (level, future_score(race, score))
        if key not in self.races:
            rows = self.units[level]
            weights = ways_to_win(race, key[1], len(rows) - 1, self.steps[level])
            self.races[key] = weighed(weights, rows)
        return self.races[key]

    def unit_series(self, level, score, side):
        """Return two series: the ways in which A, and in which B, wins the race
        of a level after a side has scored one more unit."""
        following = add_unit(score, side)
        if not wins_race(self.rule[level], following, side):
            return self.race_series(level, following), self.race_series(level, swapped(following))
        over, never = constant(1, self.most), constant(0, self.most)
        if side == "A":
            return over, never
        return never, over

    def match_series(self, level, scores):
        """Return two series: the ways in which A wins the match after A, and
        after B, has scored one more unit of a level. The scores are those of
        this level and of all above."""
        if not scores:
            return constant(1, self.most), constant(0, self.most)
        if scores not in self.matches:
            after_own, after_other = self.match_series(level + 1, scores[1:])
            found = []
            for side in "AB":
                own, other = self.unit_series(level, scores[0], side)
                found.append(plus(times(own, after_own), times(other, after_other)))
            self.matches[scores] = (found[0], found[1])
        return self.matches[scores]

    def ways_after(self, scores, side, more, winner):
        """Return in how many ways `winner` wins an open match with exactly
        `more` points after one more point of `side`."""
        if winner == "B":
            return self.ways_after([swapped(score) for score in scores], other_side(side), more, "A")
        if not scores:
            return int(side == "A" and more == 0)
        after_own, after_other = self.match_series(1, tuple(scores[1:]))
        own, other = self.unit_series(0, scores[0], side)
        return times_at(own, after_own, more) + times_at(other, after_other, more)

    def ways(self, scores, more, winner):
        """Return in how many ways `winner` wins an open match with exactly
        `more` points."""
        if more == 0:
            return 0
        return sum([self.ways_after(scores, side, more - 1, winner) for side in "AB"])
