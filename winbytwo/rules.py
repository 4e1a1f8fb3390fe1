"""Rules: nested races, and what a string of points does under them."""

from winbytwo.errors import InvalidPoints, InvalidRace, MatchOver
from winbytwo.races import has_won, is_race


def check_rule(rule):
    """Raise InvalidRace(index) for the first tuple that is not a race."""
    for index, race in enumerate(rule):
        if not is_race(race):
            raise InvalidRace(index)


def check_letters(points):
    """Raise InvalidPoints(index) for the first character but A and B."""
    for index, letter in enumerate(points):
        if letter not in ("A", "B"):
            raise InvalidPoints(index)


def start_scores(rule):
    """Return the list of the scores before the first point."""
    return [(0, 0)] * len(rule)


def add_unit(score, side):
    """Return a score with one more unit of a side."""
    a, b = score
    if side == "A":
        return (a + 1, b)
    return (a, b + 1)


def wins_race(race, score, side):
    """Tell whether a side that has scored the last unit wins the race."""
    a, b = score
    if side == "A":
        return has_won(race, a, b)
    return has_won(race, b, a)


def add_point(rule, scores, side):
    """Return the scores after one more point, and whether it wins the match."""
    found = list(scores)
    for level, race in enumerate(rule):
        found[level] = add_unit(scores[level], side)
        if not wins_race(race, found[level], side):
            return found, False
        # The highest race does not begin again: its final score stays.
        if level + 1 < len(rule):
            found[level] = (0, 0)
    return found, True


def walk(rule, points):
    """Play until the match is over, also if the string goes on.

    Return the number of points after which it is over, its winner (None for
    both if it is not over) and the list of the scores.
    """
    scores = start_scores(rule)
    for number, side in enumerate(points, start=1):
        scores, over = add_point(rule, scores, side)
        if over:
            return number, side, scores
    return None, None, scores


def open_scores(rule, points):
    """Return the list of the scores after points that leave the match open.

    This is the Open check: it raises an error for all other points.
    """
    check_letters(points)
    number, _, scores = walk(rule, points)
    if number is not None:
        raise MatchOver(number)
    return scores


def play(rule, points):
    """Return the winner, None if there is none yet, and the list of the scores."""
    check_rule(rule)
    check_letters(points)
    number, winner, scores = walk(rule, points)
    if number is not None and number < len(points):
        raise MatchOver(number)
    return winner, scores


def progress(rule, points):
    """Yield the list of the scores at the start and after each point."""
    # Play it first: an error must come before the first list.
    play(rule, points)
    # The caller may change its rule, and each list, between two lists.
    rule = list(rule)
    scores = start_scores(rule)
    yield list(scores)
    for side in points:
        scores, _ = add_point(rule, scores, side)
        yield list(scores)


def course(rule, points):
    """Return the number of points after which the match is over, or None."""
    check_rule(rule)
    check_letters(points)
    return walk(rule, points)[0]
