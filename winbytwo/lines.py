"""Lines: the scores of all races of a level, in order."""

from winbytwo.counting import longest_match, shortest_match
from winbytwo.errors import InvalidNumber
from winbytwo.races import winner_at
from winbytwo.rules import add_unit, check_rule, course, play, wins_race
from winbytwo.series import ways_to_win


def check_level(rule, level):
    """Raise InvalidNumber(level) if a rule has no such level."""
    if not 0 <= level < len(rule):
        raise InvalidNumber(level)


def lines_in(race, units):
    """Return the list of the scores of the races that units make, and the
    string of the winners."""
    found = []
    winners = ""
    score = (0, 0)
    for side in units:
        score = add_unit(score, side)
        if wins_race(race, score, side):
            found.append(score)
            winners += side
            score = (0, 0)
    if score != (0, 0):
        found.append(score)
    return found, winners


def lines_of(rule, points, level):
    """Return the list of the lines of a level."""
    play(rule, points)
    check_level(rule, level)
    units = points
    for race in rule[:level]:
        _, units = lines_in(race, units)
    found, _ = lines_in(rule[level], units)
    return found


def winners_of(race, lines):
    """Return the string of the winners at scores, None if one is not final."""
    winners = ""
    for score in lines:
        winner = winner_at(race, score)
        if winner is None:
            return None
        winners += winner
    return winners


def are_lines(rule, level, lines):
    """Tell whether some match has these lines."""
    check_rule(rule)
    check_level(rule, level)
    winners = winners_of(rule[level], lines)
    if winners is None:
        return False
    # The winners score the units of the levels above: they must end the match.
    return course(rule[level + 1:], winners) == len(winners)


def count_courses(rule, level, lines):
    """Return in how many orders the units of a level can have been scored in
    the matches that have these lines."""
    if not are_lines(rule, level, lines):
        return 0
    sizes = [a + b for a, b in lines]
    # A race that A wins after so many units has only one final score.
    ways = ways_to_win(rule[level], (0, 0), max(sizes), {})
    count = 1
    for size in sizes:
        count = count * ways[size]
    return count


def points_of_lines(rule, level, lines):
    """Return the least and the greatest number of points of the matches that
    have these lines, the latter None if there is none; None if no match has."""
    if not are_lines(rule, level, lines):
        return None
    units = sum([a + b for a, b in lines])
    # Each unit of the level is a whole match of the levels below.
    below = rule[:level]
    longest = longest_match(below)
    if longest is None:
        return units * shortest_match(below), None
    return units * shortest_match(below), units * longest
