"""Races: which scores are open or final, and which have the same future."""

from winbytwo.checks import check_number
from winbytwo.errors import InvalidRace, InvalidScore


def is_race(race):
    """Tell whether a tuple is a race."""
    return len(race) == 2 and race[0] >= race[1] >= 1


def check_race(race):
    """Raise InvalidRace(None) if a tuple is not a race."""
    if not is_race(race):
        raise InvalidRace(None)


def has_won(race, own, other):
    """Tell whether a side with `own` units has won against `other` units."""
    n, m = race
    return own >= n and own - other >= m


def is_open(race, score):
    """Tell whether a score can occur while nobody has won the race."""
    n, m = race
    low, high = min(score), max(score)
    if low < 0:
        return False
    # With m = 1 nobody passes n - 1 units: on the way somebody leads by one.
    return high < n or (m > 1 and high - low < m)


def is_won_at(race, own, other):
    """Tell whether a race can end when a side scores its unit `own`."""
    return has_won(race, own, other) and is_open(race, (own - 1, other))


def winner_at(race, score):
    """Return the side that wins the race at a final score, None at all others."""
    a, b = score
    if is_won_at(race, a, b):
        return "A"
    if is_won_at(race, b, a):
        return "B"
    return None


def future_score(race, score):
    """Return the least of the open scores with the same future."""
    n, m = race
    # From n - m units on, only the lead decides: a side that leads by m has
    # n units by then.
    spare = min(score) - (n - m)
    if spare <= 0:
        return score
    a, b = score
    return (a - spare, b - spare)


def race_winner(race, score):
    """Return the side that wins the race at a final score, None at an open one."""
    check_race(race)
    if is_open(race, score):
        return None
    winner = winner_at(race, score)
    if winner is None:
        raise InvalidScore(score)
    return winner


def final_scores(race, most):
    """Yield the final scores that A wins against at most `most` units of B."""
    check_race(race)
    check_number(most)
    n, m = race
    # A lead of one unit wins at n units, so the loser has fewer than n.
    last = min(most, n - 1) if m == 1 else most
    for b in range(last + 1):
        yield (max(n, b + m), b)


def same_open_scores(race, first, second):
    """Tell whether two open scores of a race have the same future."""
    check_race(race)
    if not is_open(race, first):
        raise InvalidScore(first)
    if not is_open(race, second):
        raise InvalidScore(second)
    return future_score(race, first) == future_score(race, second)
