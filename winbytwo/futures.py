"""Futures: what can still happen in an open match."""

from winbytwo.checks import check_number, check_side
from winbytwo.endings import Endings, swapped
from winbytwo.races import has_won
from winbytwo.reduced import future, reduced
from winbytwo.rules import add_point, open_scores


def units_needed(race, own, other):
    """Return how many units in a row a side needs to win a race."""
    n, m = race
    return max(n - own, other + m - own)


def fewest_in_race(race, own, other, unit, lost, whole):
    """Return the least number of points until a side wins an open race.

    The unit that is played is won after `unit` points at the least, or lost
    after `lost`; each later unit takes `whole` points at the least.
    """
    straight = unit + units_needed(race, own + 1, other) * whole
    if has_won(race, other + 1, own):
        return straight
    # To give up a unit that is nearly lost can be shorter than to turn it.
    return min(straight, lost + units_needed(race, own, other + 1) * whole)


def fewest_points(rule, points, side):
    """Return the least number of further points after which a side can have won."""
    short = reduced(rule)
    scores = open_scores(short, points)
    check_side(side)
    unit = lost = whole = 1
    for race, score in zip(short, scores):
        own, other = score if side == "A" else swapped(score)
        unit, lost = (fewest_in_race(race, own, other, unit, lost, whole),
                      fewest_in_race(race, other, own, lost, unit, whole))
        whole = whole * race[0]
    return unit


def deciding_sides(rule, points):
    """Return the list of the sides that win the match with the next point."""
    short = reduced(rule)
    scores = open_scores(short, points)
    found = []
    for side in "AB":
        _, over = add_point(short, scores, side)
        if over:
            found.append(side)
    return found


def count_endings(rule, points, more, side):
    """Return the number of strings of so many further points at whose end the
    match is over, won by a side."""
    short = reduced(rule)
    scores = open_scores(short, points)
    check_number(more)
    check_side(side)
    return Endings(short, more).ways(scores, more, side)


def equal_chances(rule, points):
    """Tell whether both sides have the same future with their names exchanged."""
    short = reduced(rule)
    scores = open_scores(short, points)
    return future(short, scores) == future(short, [swapped(score) for score in scores])
