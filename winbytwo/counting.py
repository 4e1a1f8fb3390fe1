"""Counting: how many matches there are, and which one has which number."""

from winbytwo.checks import check_number, check_side
from winbytwo.endings import Endings
from winbytwo.errors import InvalidNumber
from winbytwo.reduced import reduced
from winbytwo.rules import add_point, check_rule, play, start_scores


def count_matches(rule, length):
    """Return the number of matches of a length that A wins."""
    short = reduced(rule)
    check_number(length)
    return Endings(short, length).ways(start_scores(short), length, "A")


def nth_match(rule, length, winner, number):
    """Return the match with a number among those of a length and a winner."""
    short = reduced(rule)
    check_number(length)
    check_side(winner)
    endings = Endings(short, length)
    scores = start_scores(short)
    if not 0 <= number < endings.ways(scores, length, winner):
        raise InvalidNumber(number)
    points = ""
    for more in reversed(range(length)):
        side = "A"
        ways = endings.ways_after(scores, "A", more, winner)
        if number >= ways:
            number -= ways
            side = "B"
        points += side
        scores, _ = add_point(short, scores, side)
    return points


def match_number(rule, points):
    """Return the number of a match among those of its length and winner."""
    winner, _ = play(rule, points)
    if winner is None:
        raise InvalidNumber(None)
    short = reduced(rule)
    endings = Endings(short, len(points))
    scores = start_scores(short)
    number = 0
    for at, side in enumerate(points, start=1):
        # In string order all that goes on with A comes before what goes on with B.
        if side == "B":
            number += endings.ways_after(scores, "A", len(points) - at, winner)
        scores, _ = add_point(short, scores, side)
    return number


def shortest_match(rule):
    """Return the least number of points of a match."""
    check_rule(rule)
    length = 1
    for n, _ in rule:
        length = length * n
    return length


def longest_match(rule):
    """Return the greatest number of points of a match, None if there is none."""
    check_rule(rule)
    length = 1
    for n, m in rule:
        if m > 1:
            return None
        length = length * (2 * n - 1)
    return length
