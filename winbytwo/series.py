"""Series: lists of numbers of ways, by the number of points that they take.

All series that are taken together have one length.
"""

from winbytwo.races import future_score
from winbytwo.rules import add_unit, wins_race


def constant(ways, most):
    """Return the series of so many ways without any point."""
    return [ways] + [0] * most


def times(first, second):
    """Return the series of a way of the first and then one of the second series."""
    found = [0] * len(first)
    for points, ways in enumerate(first):
        if ways:
            found[points:] = [old + ways * more for old, more in zip(found[points:], second)]
    return found


def plus(first, second):
    """Return the series of the ways of either series."""
    return [one + two for one, two in zip(first, second)]


def times_at(first, second, points):
    """Return one number of the product of two series."""
    rest = second[:points + 1]
    return sum([one * two for one, two in zip(first, rest[::-1])])


def powers(unit, number):
    """Return the series of 0, 1, .. `number` units in a row, each of them of
    the same series."""
    found = [constant(1, len(unit) - 1)]
    for _ in range(number):
        found.append(times(found[-1], unit))
    return found


def weighed(weights, rows):
    """Return the sum of series, each one times its weight."""
    found = [0] * len(rows[0])
    for weight, row in zip(weights, rows):
        if weight:
            found = [old + weight * ways for old, ways in zip(found, row)]
    return found


def after_unit(race, score, side):
    """Return the least score with the same future after one more unit, None if
    the unit wins the race."""
    following = add_unit(score, side)
    if wins_race(race, following, side):
        return None
    return future_score(race, following)


def ways_to_win(race, score, most, steps):
    """Return the list of the numbers of ways in which A wins a race from an
    open score on, with exactly 0, 1, .. `most` further units.

    The dict `steps` keeps for the next call what units do to open scores.
    """
    found = [0]
    opened = {score: 1}
    for _ in range(most):
        won = 0
        following = {}
        for at, ways in opened.items():
            if at not in steps:
                steps[at] = (after_unit(race, at, "A"), after_unit(race, at, "B"))
            own, other = steps[at]
            if own is None:
                won += ways
            else:
                following[own] = following.get(own, 0) + ways
            if other is not None:
                following[other] = following.get(other, 0) + ways
        found.append(won)
        opened = following
    return found
