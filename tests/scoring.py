"""Slow scoring, by the words of the document, to compare the program with, and
a test case that compares errors."""

import itertools
import unittest

from winbytwo.errors import InvalidPoints, MatchOver

OTHER = {"A": "B", "B": "A"}
# Rules with one or two tuples that are no races, and the index of the first one.
WRONG_RULES = [([(0, 0)], 0), ([(2, 1), (2, 3)], 1), ([(2, 0), (0, 2)], 0),
               ([(1, 1), (2, 2), (4, 2), (4, -1)], 3), ([(2, 1), (3,)], 1),
               ([(2, 1), (), (0, 0)], 1), ([(2, 1), (3, 2, 1)], 1)]
# Rules and strings that the Open check refuses, with the error and its value.
WRONG_STRINGS = [([(2, 1)], "AxA", InvalidPoints, 1), ([(2, 1)], "AAAA-", InvalidPoints, 4),
                 ([], "a", InvalidPoints, 0), ([(2, 2), (2, 1)], "BA BAx", InvalidPoints, 2),
                 ([(2, 1)], "AA", MatchOver, 2), ([(2, 1)], "ABAAB", MatchOver, 3),
                 ([], "B", MatchOver, 1), ([(1, 1)], "AB", MatchOver, 1),
                 ([(2, 2), (1, 1), (2, 2)], "BABBBB", MatchOver, 6),
                 ([(2, 2), (1, 1), (2, 2)], "BABBBBB", MatchOver, 6)]


class ErrorCase(unittest.TestCase):
    def assert_fails(self, wanted, value, call, *given):
        with self.assertRaises(wanted) as told:
            call(*given)
        self.assertIs(type(told.exception), wanted)
        self.assertEqual(told.exception.value, value)


def short_races(most):
    """The races (n, m) with n up to `most`."""
    return [(n, m) for n in range(1, most + 1) for m in range(1, n + 1)]


def short_rules(most, size):
    """The rules of up to `size` races whose numbers n have a product of at most
    `most`."""
    found = [[]]
    for rule in found:
        left = most
        for n, _ in rule:
            left //= n
        if len(rule) < size:
            found.extend([*rule, race] for race in short_races(left))
    return found


def next_score(race, score, side):
    """One more unit of a side: the score and whether it has won."""
    n, m = race
    units = dict(zip("AB", score))
    units[side] += 1
    won = units[side] >= n and units[side] - units[OTHER[side]] >= m
    return (units["A"], units["B"]), won


def reached_scores(race, most):
    """Score unit by unit: the set of the open scores, and a dict of the final
    ones with their winners, of all scores with at most `most` units a side."""
    opened, finals, waiting = {(0, 0)}, {}, [(0, 0)]
    while waiting:
        score = waiting.pop()
        for side in "AB":
            following, won = next_score(race, score, side)
            if max(following) > most:
                continue
            if won:
                finals[following] = side
            elif following not in opened:
                opened.add(following)
                waiting.append(following)
    return opened, finals


def futures_agree(race, first, second, depth):
    """Whether every string of up to `depth` further units has the same effect."""
    pairs = {(first, second)}
    for _ in range(depth):
        following = set()
        for one, two in pairs:
            for side in "AB":
                one_next, one_won = next_score(race, one, side)
                two_next, two_won = next_score(race, two, side)
                if one_won != two_won:
                    return False
                if not one_won and one_next != two_next:
                    following.add((one_next, two_next))
        pairs = following
    return True


def play_slowly(rule, points):
    """Play point by point: (number of points at the end or None, winner, all
    lists of scores from the start to the last point that counts)."""
    counts = [[0, 0] for _ in rule]
    told = [[tuple(units) for units in counts]]
    for number, side in enumerate(points, 1):
        at = "AB".index(side)
        level = 0
        over = not rule
        while level < len(rule):
            n, m = rule[level]
            counts[level][at] += 1
            own, other = counts[level][at], counts[level][1 - at]
            if own < n or own - other < m:
                break
            if level == len(rule) - 1:
                over = True
                break
            counts[level] = [0, 0]
            level += 1
        told.append([tuple(units) for units in counts])
        if over:
            return number, side, told
    return None, None, told


def reduced_slowly(rule):
    """Do the steps of point 8, one at a time, until none is left."""
    found = list(rule)
    while (1, 1) in found:
        found.remove((1, 1))
    for at in range(len(found) - 1):
        (n, m), (k, j) = found[at:at + 2]
        if n == m and k == j:
            return reduced_slowly(found[:at] + [(n * k, n * k)] + found[at + 2:])
    return found


def random_rule(dice, most=500):
    """A rule whose numbers n have a product of at most `most`."""
    rule = []
    for _ in range(dice.randrange(5)):
        n = dice.randint(1, min(12, most))
        most //= n
        m = dice.choice([1, n, dice.randint(1, n)])
        rule.append((n, m))
    return dice.sample(rule, len(rule))


def points_to(rule, scores):
    """Points after which the races have these open scores."""
    points = ""
    whole = 1
    lengths = []
    for n, _ in rule:
        lengths.append(whole)
        whole *= n
    for (a, b), length in reversed(list(zip(scores, lengths))):
        both = min(a, b)
        points += ("A" * length + "B" * length) * both
        points += "A" * length * (a - both) + "B" * length * (b - both)
    return points


def open_scores(race, most):
    """All open scores of a race with at most so many units of both sides."""
    n, m = race
    return [(a, b) for a in range(most + 1) for b in range(most + 1)
            if max(a, b) < n or (m > 1 and abs(a - b) < m)]


def random_points(dice, length):
    """Points of which one side or the other one wins more, or neither."""
    share = dice.choice([0.05, 0.3, 0.5, 0.5, 0.7, 0.95])
    return "".join("A" if dice.random() < share else "B" for _ in range(length))


def random_open(dice, rule, length):
    """At most so many random points that leave a match of the rule open."""
    points = random_points(dice, length)
    number, _, _ = play_slowly(rule, points)
    return points if number is None else points[:number - 1]


def exchanged(points):
    """Points with the sides exchanged."""
    return "".join(OTHER[side] for side in points)


def all_points(most):
    """All strings of at most so many points."""
    return ["".join(points) for size in range(most + 1)
            for points in itertools.product("AB", repeat=size)]


def open_points(rule, most):
    """All strings of at most so many points that leave a match open."""
    return [points for points in all_points(most) if play_slowly(rule, points)[0] is None]
