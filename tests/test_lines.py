"""Tests of points 2 to 6 and of winbytwo/lines.py."""

import itertools
import random
import unittest

from machines import next_state, slow_matches, start_state
from scoring import (ErrorCase, WRONG_RULES, exchanged, open_points, play_slowly, random_open,
                     random_rule, reached_scores, short_rules)
from winbytwo import lines as module
from winbytwo.counting import count_matches, longest_match, nth_match, shortest_match
from winbytwo.errors import InvalidNumber, InvalidPoints, InvalidRace, MatchOver
from winbytwo.lines import are_lines, count_courses, lines_of, points_of_lines
from winbytwo.rules import course

LENGTH = 12
RULES = [rule for rule in short_rules(6, 3) if rule] + [[(2, 1), (2, 2), (2, 1)], [(2, 1)] * 3]
GREAT = [[(12, 2), (6, 2), (2, 1), (3, 1)], [(2, 2), (12, 1), (12, 11)], [(10, 7), (12, 2), (4, 3)],
         [(2, 1), (2, 2), (2, 1), (12, 6)], [(9, 9), (6, 5), (3, 3), (3, 2)], [(12, 12)], [(12, 1)],
         [(1, 1), (4, 4), (1, 1), (5, 3)], [(3, 2), (3, 2), (3, 2)], [(4, 2), (6, 2), (2, 1)],
         [(5, 1), (5, 1), (5, 1), (4, 1)], [(2, 1)] * 4]


def slow_lines(rule, points):
    """Play point by point: for each level the lines and the units, which are
    the winners of the races below."""
    counts = [[0, 0] for _ in rule]
    lines = [[] for _ in rule]
    units = ["" for _ in rule]
    for side in points:
        at = "AB".index(side)
        for level, (n, m) in enumerate(rule):
            units[level] += side
            counts[level][at] += 1
            if counts[level][at] < n or counts[level][at] - counts[level][1 - at] < m:
                break
            lines[level].append(tuple(counts[level]))
            counts[level] = [0, 0]
    for level, (a, b) in enumerate(counts):
        if a + b > 0:
            lines[level].append((a, b))
    return lines, units


def random_match(dice, rule):
    """A match of a rule, found by going on point by point."""
    state, points, share = start_state(rule), "", dice.choice([0.3, 0.45, 0.55, 0.7])
    while state not in ("A", "B"):
        points += "A" if dice.random() < share else "B"
        state = next_state(rule, state, points[-1])
    return points


def courses_of(rule, most):
    """For each level a dict of the lines of all matches of at most so many
    points: the numbers of points of the matches, by the units of the level."""
    found = [{} for _ in rule]
    for points in itertools.chain(*slow_matches(rule, most).values()):
        lines, units = slow_lines(rule, points)
        for level, table in enumerate(found):
            table.setdefault(tuple(lines[level]), {}).setdefault(units[level], []).append(len(points))
    return found


def slowly_checked(rule, level, lines):
    """Whether lines are those of a match: by all final scores of the race, and
    by the winners, who must end a match of the levels above."""
    _, finals = reached_scores(rule[level], max([0, *itertools.chain(*lines)]))
    if any(score not in finals for score in lines):
        return False
    winners = "".join(finals[score] for score in lines)
    return play_slowly(rule[level + 1:], winners)[0] == len(winners)


class LinesOfTest(unittest.TestCase):
    def assert_lines(self, rule, points):
        wanted, _ = slow_lines(rule, points)
        found = [lines_of(rule, points, level) for level in range(len(rule))]
        self.assertEqual(found, wanted, (rule, points))

    def test_all_short_strings(self):
        for rule in RULES:
            for points in open_points(rule, 7):
                self.assert_lines(rule, points)
                for side in "AB":
                    if play_slowly(rule, points + side)[0] is not None:
                        self.assert_lines(rule, points + side)

    def test_great_rules(self):
        dice = random.Random(1)
        for rule in GREAT + [random_rule(dice) for _ in range(40)]:
            for length in [1, 9, 60, 400, 2000]:
                self.assert_lines(rule, random_open(dice, rule, length))

    def test_matches_of_great_rules(self):
        dice = random.Random(2)
        for rule in GREAT:
            for _ in range(5):
                points = random_match(dice, rule)
                self.assert_lines(rule, points)
                self.assertEqual(len(lines_of(rule, points, len(rule) - 1)), 1)

    def test_races_that_have_just_ended_and_begun(self):
        rule = [(2, 1), (3, 1)]
        self.assertEqual(lines_of(rule, "", 0), [])
        self.assertEqual(lines_of(rule, "", 1), [])
        self.assertEqual(lines_of(rule, "AA", 0), [(2, 0)])
        self.assertEqual(lines_of(rule, "AA", 1), [(1, 0)])
        self.assertEqual(lines_of(rule, "AAB", 0), [(2, 0), (0, 1)])
        self.assertEqual(lines_of(rule, "AABBAAAA"[:6], 1), [(2, 1)])
        self.assertEqual(lines_of(rule, "AABBAAAA", 1), [(3, 1)])
        self.assertEqual(lines_of(rule, "AABBAAAA", 0), [(2, 0), (0, 2), (2, 0), (2, 0)])

    def test_levels_of_the_rule_as_it_is_written(self):
        rule = [(1, 1), (2, 2), (1, 1), (2, 2)]
        self.assertEqual(lines_of(rule, "ABAABB", 0), [(1, 0), (0, 1), (1, 0), (1, 0), (0, 1), (0, 1)])
        self.assertEqual(lines_of(rule, "ABAABB", 1), [(3, 1), (0, 2)])
        self.assertEqual(lines_of(rule, "ABAABB", 2), [(1, 0), (0, 1)])
        self.assertEqual(lines_of(rule, "ABAABB", 3), [(1, 1)])

    def test_long_lines(self):
        self.assertEqual(lines_of([(2, 2)], "AB" * 1000, 0), [(1000, 1000)])
        self.assertEqual(lines_of([(1, 1), (12, 12)], "AB" * 1000, 0), [(1, 0), (0, 1)] * 1000)

    def test_each_list_is_new(self):
        first = lines_of([(2, 1), (2, 1)], "AAB", 0)
        first.append((7, 7))
        self.assertEqual(lines_of([(2, 1), (2, 1)], "AAB", 0), [(2, 0), (0, 1)])
        self.assertIs(type(lines_of([(2, 1)], "", 0)), list)


class AreLinesTest(unittest.TestCase):
    def test_all_lists_of_short_rules(self):
        for rule in RULES:
            found = courses_of(rule, LENGTH)
            for level, table in enumerate(found):
                most = LENGTH // shortest_match(rule[:level])
                scores = [(a, b) for a in range(-1, 6) for b in range(-1, 6)]
                for size in range(4):
                    for lines in itertools.product(scores if size < 3 else scores[8::3], repeat=size):
                        if sum(a + b for a, b in lines) <= most:
                            wanted = lines in table
                            self.assertIs(are_lines(rule, level, list(lines)), wanted, (rule, lines))
                for lines in table:
                    self.assertIs(are_lines(rule, level, list(lines)), True)

    def test_lines_of_matches_and_of_open_strings(self):
        dice = random.Random(3)
        for rule in GREAT:
            for _ in range(4):
                points = random_match(dice, rule)
                for level in range(len(rule)):
                    self.assertIs(are_lines(rule, level, lines_of(rule, points, level)), True)
                    before = lines_of(rule, points[:-1], level)
                    self.assertIs(are_lines(rule, level, before), False, (rule, points))

    def changes(self, dice, race, lines):
        """The lines with one of them changed, left out, put in, turned round,
        exchanged with another one."""
        at, other = dice.randrange(len(lines)), dice.randrange(len(lines))
        (a, b), (n, m) = lines[at], race
        changed = [(a + 1, b), (a, b + 1), (a - 1, b), (a, b - 1), (b, a), (a + 1, b + 1), (-1, a),
                   (n, 0), (0, n), (n + 1, n + 1 - m), (n, n - m), (0, 0), (n, n)]
        found = [lines[:at] + [score] + lines[at + 1:] for score in changed]
        found += [lines[:at] + [score] + lines[at:] for score in changed]
        found += [lines[:at] + lines[at + 1:], lines[:-1], lines + lines[-1:], lines[::-1], [],
                  [(b, a) for a, b in lines]]
        swapped = list(lines)
        swapped[at], swapped[other] = lines[other], lines[at]
        return found + [swapped]

    def test_changed_lines(self):
        dice = random.Random(4)
        seen = []
        for rule in GREAT + RULES:
            for _ in range(3):
                points = random_match(dice, rule)
                for level in range(len(rule)):
                    lines = lines_of(rule, points, level)
                    for changed in self.changes(dice, rule[level], lines):
                        wanted = slowly_checked(rule, level, changed)
                        self.assertIs(are_lines(rule, level, changed), wanted, (rule, changed))
                        seen.append(wanted)
        self.assertEqual({True, False}, set(seen))

    def test_exchanged_matches(self):
        dice = random.Random(5)
        for rule in GREAT:
            points = exchanged(random_match(dice, rule))
            for level in range(len(rule)):
                lines = lines_of(rule, points, level)
                self.assertIs(are_lines(rule, level, lines), True)
                self.assertIs(are_lines(rule, level, [(b, a) for a, b in lines]), True)

    def test_no_lines(self):
        for rule in RULES + GREAT:
            for level in range(len(rule)):
                self.assertIs(are_lines(rule, level, []), False)

    def test_the_highest_level_has_one_line(self):
        rule = [(4, 2), (2, 1)]
        self.assertIs(are_lines(rule, 1, [(2, 1)]), True)
        self.assertIs(are_lines(rule, 1, [(2, 0), (2, 0)]), False)
        self.assertIs(are_lines(rule, 1, [(2, 2)]), False)
        self.assertIs(are_lines(rule, 1, [(1, 1)]), False)
        self.assertIs(are_lines(rule, 0, [(4, 1), (2, 4), (5, 3)]), True)
        self.assertIs(are_lines(rule, 0, [(4, 1), (4, 2), (5, 3)]), False)
        self.assertIs(are_lines(rule, 0, [(4, 1), (2, 4), (3, 3)]), False)
        self.assertIs(are_lines([(1, 1)], 0, [(1, 0)]), True)


class CountCoursesTest(unittest.TestCase):
    def test_all_matches_of_short_rules(self):
        for rule in RULES:
            for level, table in enumerate(courses_of(rule, LENGTH)):
                for lines, courses in table.items():
                    units = sum(a + b for a, b in lines)
                    # Others may need more points for some of their orders.
                    if units * shortest_match(rule[:level]) <= LENGTH:
                        found = count_courses(rule, level, list(lines))
                        self.assertEqual(found, len(courses), (rule, level, lines))

    def test_no_match_has_these_lines(self):
        for rule, level, lines in [([(2, 1)], 0, []), ([(2, 1)], 0, [(1, 1)]), ([(2, 1)], 0, [(2, 2)]),
                                   ([(2, 2)], 0, [(2, 0), (2, 0)]), ([(2, 1), (2, 1)], 0, [(2, 0)]),
                                   ([(2, 1), (2, 1)], 1, [(3, 1)]), ([(4, 2)], 0, [(-1, 4)])]:
            self.assertEqual(count_courses(rule, level, lines), 0)

    def test_all_scores_of_a_race(self):
        # All matches of one length are all orders of their only final score.
        for n, m in [(4, 2), (12, 1), (12, 5), (7, 7), (3, 2)]:
            for b in range(0, 60 - m if m > 1 else n):
                score = (max(n, b + m), b)
                wanted = count_matches([(n, m)], sum(score))
                self.assertEqual(count_courses([(n, m)], 0, [score]), wanted)
                self.assertEqual(count_courses([(n, m)], 0, [score[::-1]]), wanted)

    def test_sixty_lines(self):
        rule = [(2, 2), (2, 2)]
        lines = [(2, 0), (0, 2)] * 29 + [(31, 29), (60, 58)]
        self.assertEqual(count_courses(rule, 0, lines), 2 ** 29 * 2 ** 58)
        self.assertEqual(count_courses(rule, 0, lines[:-1]), 0)
        lines = [(12, 11), (11, 12)] * 29 + [(12, 11)] * 2
        self.assertEqual(count_courses([(12, 1), (12, 2)], 0, lines),
                         count_courses([(12, 1)], 0, [(12, 11)]) ** 60)
        self.assertEqual(count_courses([(12, 1), (31, 2)], 0, lines),
                         count_courses([(12, 1)], 0, [(12, 11)]) ** 60)


class PointsOfLinesTest(unittest.TestCase):
    def test_all_matches_of_rules_that_must_end(self):
        for rule in [[(2, 1)], [(3, 1), (2, 1)], [(2, 1), (2, 1)], [(1, 1), (2, 1), (2, 1)],
                     [(2, 1), (3, 1)], [(4, 1)], [(2, 1), (1, 1), (2, 1)]]:
            for level, table in enumerate(courses_of(rule, longest_match(rule))):
                for lines, courses in table.items():
                    sizes = list(itertools.chain(*courses.values()))
                    found = points_of_lines(rule, level, list(lines))
                    self.assertEqual(found, (min(sizes), max(sizes)), (rule, level, lines))

    def test_matches_of_rules_without_an_end(self):
        for rule in [[(2, 2)], [(2, 1), (2, 2)], [(2, 2), (2, 1)], [(3, 2), (2, 1)], [(2, 1), (3, 2)]]:
            endless = [level for level, (_, m) in enumerate(rule) if m > 1]
            for level, table in enumerate(courses_of(rule, 15)):
                for lines, courses in table.items():
                    least, greatest = points_of_lines(rule, level, list(lines))
                    self.assertEqual(least, min(itertools.chain(*courses.values())))
                    self.assertEqual(greatest is None, endless[0] < level)

    def test_lines_of_matches(self):
        dice = random.Random(6)
        for rule in GREAT:
            for _ in range(5):
                points = random_match(dice, rule)
                for level in range(len(rule)):
                    lines = lines_of(rule, points, level)
                    least, greatest = points_of_lines(rule, level, lines)
                    units = sum(a + b for a, b in lines)
                    self.assertLessEqual(least, len(points))
                    self.assertEqual(least, units * shortest_match(rule[:level]))
                    if greatest is None:
                        self.assertIsNone(longest_match(rule[:level]))
                    else:
                        self.assertGreaterEqual(greatest, len(points))
                        self.assertEqual(greatest, units * longest_match(rule[:level]))
                    if level == 0:
                        self.assertEqual([least, greatest], [len(points)] * 2)

    def test_no_match_has_these_lines(self):
        for rule, level, lines in [([(2, 1)], 0, []), ([(2, 1)], 0, [(1, 1)]), ([(2, 1)], 0, [(2, 2)]),
                                   ([(2, 2)], 0, [(2, 0), (2, 0)]), ([(2, 1), (2, 1)], 0, [(2, 0)]),
                                   ([(2, 1), (2, 1)], 1, [(3, 1)])]:
            self.assertIsNone(points_of_lines(rule, level, lines))

    def test_kinds_of_the_results(self):
        found = points_of_lines([(2, 1), (2, 1)], 1, [(2, 1)])
        self.assertEqual([type(found), found], [tuple, (6, 9)])
        self.assertEqual(points_of_lines([(4, 2), (2, 1)], 1, [(2, 1)]), (12, None))


class ErrorsTest(ErrorCase):
    def test_rule_check_comes_first(self):
        for rule, index in WRONG_RULES:
            for level in [-1, 0, 9]:
                for points in ["", "x", "AAAAAAAAA"]:
                    self.assert_fails(InvalidRace, index, lines_of, rule, points, level)
                for lines in [[], [(2, 0)], [(-1, 9)]]:
                    for call in [are_lines, count_courses, points_of_lines]:
                        self.assert_fails(InvalidRace, index, call, rule, level, lines)

    def test_points_check_comes_before_levels(self):
        for level in [-1, 0, 1, 9]:
            self.assert_fails(InvalidPoints, 1, lines_of, [(2, 1)], "AxA", level)
            self.assert_fails(InvalidPoints, 4, lines_of, [(2, 1)], "AAAA-", level)
            self.assert_fails(MatchOver, 2, lines_of, [(2, 1)], "AAB", level)
            self.assert_fails(MatchOver, 1, lines_of, [], "BB", level)
            self.assert_fails(MatchOver, 1, lines_of, [(1, 1), (1, 1)], "BB", level)

    def test_levels_that_there_are_not(self):
        for rule in [[], [(2, 1)], [(2, 2), (1, 1)], [(2, 1)] * 4]:
            for level in [-1, -2, -10 ** 29, len(rule), len(rule) + 1, 10 ** 29]:
                for points in ["", "A"]:
                    self.assert_fails(InvalidNumber, level, lines_of, rule, points, level)
                for lines in [[], [(2, 0)], [(-1, 9)]]:
                    for call in [are_lines, count_courses, points_of_lines]:
                        self.assert_fails(InvalidNumber, level, call, rule, level, lines)


class CallsTest(unittest.TestCase):
    def test_arguments_by_name(self):
        rule = [(2, 1)]
        self.assertEqual(lines_of(level=0, points="A", rule=rule), [(1, 0)])
        self.assertIs(are_lines(lines=[(2, 1)], level=0, rule=rule), True)
        self.assertEqual(count_courses(lines=[(2, 1)], level=0, rule=rule), 2)
        self.assertEqual(points_of_lines(lines=[(2, 1)], level=0, rule=rule), (3, 3))

    def test_arguments_are_not_modified(self):
        rule, lines = [(1, 1), (2, 2), (2, 1)], [(2, 0), (0, 2), (3, 1)]
        are_lines(rule, 1, lines)
        count_courses(rule, 1, lines)
        points_of_lines(rule, 1, lines)
        lines_of(rule, "AABBA", 1)
        self.assertEqual(rule, [(1, 1), (2, 2), (2, 1)])
        self.assertEqual(lines, [(2, 0), (0, 2), (3, 1)])

    def test_arguments_that_are_changed_afterwards(self):
        rule, lines = [(2, 1)], [(2, 1)]
        self.assertIs(are_lines(rule, 0, lines), True)
        rule[0] = (3, 1)
        self.assertIs(are_lines(rule, 0, lines), False)
        lines[0] = (3, 1)
        self.assertEqual(count_courses(rule, 0, lines), 3)

    def test_what_is_returned_may_be_passed_on(self):
        for rule, points in [([(2, 2)], "AB" * 999 + "AA"), ([(4, 3)], "AAB" + "BA" * 900 + "AA"),
                             ([(1, 1), (12, 12)], "BA" * 900 + "A" * 12)]:
            lines = lines_of(rule, points, 0)
            self.assertEqual(course(rule, points), len(points))
            self.assertIs(are_lines(rule, 0, lines), True)
            self.assertGreaterEqual(count_courses(rule, 0, lines), 1)
            self.assertEqual(points_of_lines(rule, 0, lines), (len(points), len(points)))

    def test_each_function_is_defined_in_its_file(self):
        for name in ["lines_of", "are_lines", "count_courses", "points_of_lines"]:
            self.assertEqual(getattr(module, name).__module__, "winbytwo.lines")

    def test_numbered_matches(self):
        rule = [(4, 2), (2, 1)]
        points = nth_match(rule, 30, "B", count_matches(rule, 30) // 3)
        lines = lines_of(rule, points, 0)
        self.assertEqual(sum(a + b for a, b in lines), 30)
        self.assertIs(are_lines(rule, 0, lines), True)

    def test_example_of_the_document(self):
        rule = [(4, 2), (2, 1)]
        found = [lines_of([(2, 1), (3, 1)], "AABABA", 0),
                 are_lines(rule, 0, [(4, 1), (2, 4), (5, 3)]),
                 count_courses([(2, 1), (2, 1)], 0, [(2, 1), (0, 2), (2, 0)]),
                 points_of_lines(rule, 1, [(2, 1)])]
        self.assertEqual(found, [[(2, 0), (1, 2), (1, 0)], True, 2, (12, None)])


if __name__ == "__main__":
    unittest.main()
