"""Chances: exact chances and expected numbers, as fractions.

A unit of any level is won by A with the chance a / (a + b): its odds are the
tuple (a, b) in lowest terms. A fraction is a tuple (numerator, denominator).
"""

from math import gcd

from winbytwo.errors import InvalidNumber
from winbytwo.reduced import reduced
from winbytwo.rules import add_unit, open_scores


def lowest(numerator, denominator):
    """Return two numbers in lowest terms."""
    common = gcd(numerator, denominator)
    return (numerator // common, denominator // common)


def powers_of(base, most):
    """Return the list of the powers of a number from 0 to `most`."""
    found = [1]
    for _ in range(most):
        found.append(found[-1] * base)
    return found


def ruin(lead, odds):
    """Return how A fares from each place in a race that only asks for a lead.

    The place of A is its lead more than -`lead`, from 0 (B has won) to
    2 * `lead` (A has won). The chance that A wins is a number of the list that
    is returned, divided by the last one.
    """
    a, b = odds
    size = 2 * lead
    ahead, behind = powers_of(a, size), powers_of(b, size)
    # The sum k is (a ** k - b ** k) / (a - b), and as a sum it holds for a = b, too.
    sums = [0]
    for place in range(size):
        sums.append(sums[-1] * a + behind[place])
    return [ahead[size - place] * sums[place] for place in range(size + 1)]


def is_early(race, score):
    """Tell whether a score is open and more than its lead counts."""
    n, m = race
    return max(score) < n and min(score) < n - m


def place_of(race, score):
    """Return the place of A at a score that is not early."""
    lead = race[1]
    a, b = score
    return min(max(a - b, -lead), lead) + lead


def rounds(race, score, odds):
    """Return a list of dicts: after 0, 1, .. further units the scores at which
    the race can be, with their weights, until no score is early."""
    found = [{score: 1}]
    while True:
        following = {}
        for at, weight in found[-1].items():
            if is_early(race, at):
                for side, share in zip("AB", odds):
                    after = add_unit(at, side)
                    following[after] = following.get(after, 0) + weight * share
        if not following:
            return found
        found.append(following)


def mean(race, score, odds, early, places):
    """Return the mean worth, as a fraction, of the scores that a race passes
    from a score on: each early one is worth `early`, the first other one what
    the list `places` tells of its place."""
    total, parts = 0, 1
    for units, row in enumerate(rounds(race, score, odds)):
        if units > 0:
            total, parts = total * sum(odds), parts * sum(odds)
        for at, weight in row.items():
            worth = early if is_early(race, at) else places[place_of(race, at)]
            total += weight * worth
    return total, parts


def race_chance(race, score, odds):
    """Return the chance that A wins a race from an open or final score on."""
    places = ruin(race[1], odds)
    total, parts = mean(race, score, odds, 0, places)
    return lowest(total, parts * places[-1])


def race_odds(race, odds):
    """Return the odds of a race that begins, from those of its units."""
    total, parts = race_chance(race, (0, 0), odds)
    return (total, parts - total)


def durations(lead, odds):
    """Return a list of numbers and a number: the expected number of units from
    each place in a race that only asks for a lead is one divided by the other."""
    a, b = odds
    size = 2 * lead
    if a == b:
        return [place * (size - place) for place in range(size + 1)], 1
    # On average a unit moves A by (a - b) / (a + b) places, and all units
    # together move A from its place to the mean place at the end.
    places = ruin(lead, odds)
    ways = [size * won - place * places[-1] for place, won in enumerate(places)]
    return [(a + b) * way for way in ways], (a - b) * places[-1]


def race_units(race, odds):
    """Return the expected number of units of a race."""
    # Both sides begin alike. So the greater odds may be those of A, which
    # keeps all numbers positive.
    sorted_odds = (max(odds), min(odds))
    places, whole = durations(race[1], sorted_odds)
    total, parts = mean(race, (0, 0), sorted_odds, whole, places)
    return lowest(total, parts * whole)


def mixed(share, first, second):
    """Return the fraction between two fractions: the first one has this share."""
    part, whole = share
    total = part * first[0] * second[1] + (whole - part) * second[0] * first[1]
    return lowest(total, whole * first[1] * second[1])


def point_odds(x, y):
    """Return the odds of a point; raise InvalidNumber for a number below 1."""
    for number in (x, y):
        if number < 1:
            raise InvalidNumber(number)
    return lowest(x, y)


def chance(rule, points, x, y):
    """Return the chance that A wins the match if the string has been played."""
    short = reduced(rule)
    scores = open_scores(short, points)
    odds = point_odds(x, y)
    # The chance that A wins the unit that is played, the lowest level first.
    current = (odds[0], sum(odds))
    for race, score in zip(short, scores):
        won = race_chance(race, add_unit(score, "A"), odds)
        lost = race_chance(race, add_unit(score, "B"), odds)
        current = mixed(current, won, lost)
        odds = race_odds(race, odds)
    return current


def expected_points(rule, x, y):
    """Return the expected number of points of a match."""
    short = reduced(rule)
    odds = point_odds(x, y)
    total, parts = 1, 1
    # A race takes as many points as its expected units, each as many as any:
    # what is to come does not depend on how long the units so far were.
    for race in short:
        units, whole = race_units(race, odds)
        total, parts = lowest(total * units, parts * whole)
        odds = race_odds(race, odds)
    return (total, parts)
