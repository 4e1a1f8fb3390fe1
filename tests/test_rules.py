"""Tests of points 2, 3, 5 and 6 and of winbytwo/rules.py."""

import itertools
import random
import unittest

from scoring import ErrorCase, WRONG_RULES, play_slowly, random_points, short_races
from winbytwo import rules
from winbytwo.errors import InvalidPoints, InvalidRace, MatchOver
from winbytwo.rules import course, play, progress

RULES = [[], [(1, 1)], [(1, 1), (1, 1)], [(2, 1)], [(2, 2)], [(4, 2)], [(3, 3)],
         [(2, 1), (2, 2)], [(2, 2), (2, 1)], [(1, 1), (3, 2), (1, 1)],
         [(3, 1), (2, 1), (2, 2)], [(4, 2), (3, 2), (2, 1)],
         [(2, 1), (1, 1), (2, 2), (3, 1)], [(2, 2), (2, 1), (2, 1), (3, 2)],
         [(4, 2), (6, 2), (2, 1)], [(12, 2), (6, 2), (2, 1), (3, 1)]]
CALLS = [play, course, lambda rule, points: next(progress(rule, points))]


def alternating(rule, length):
    """Points that keep the lead in a rule small: the longest strings."""
    points = ""
    for _ in range(length):
        scores = play(rule, points)[1]
        behind = [a - b for a, b in reversed(scores) if a != b]
        side = "B" if behind and behind[0] > 0 else "A"
        points += side
    return points


class RuleCase(ErrorCase):
    def assert_played(self, rule, points):
        """Compare all three functions with playing point by point."""
        number, winner, told = play_slowly(rule, points)
        self.assertEqual(course(rule, points), number)
        counted = points if number is None else points[:number]
        self.assertEqual(play(rule, counted), (winner, told[-1]))
        self.assertEqual(list(progress(rule, counted)), told)
        if counted != points:
            self.assert_fails(MatchOver, number, play, rule, points)
            self.assert_fails(MatchOver, number, CALLS[2], rule, points)


class PlayTest(RuleCase):
    def test_all_short_strings_of_short_rules(self):
        races = short_races(3)
        for size in range(3):
            for rule in itertools.product(races, repeat=size):
                for length in range(7):
                    for points in itertools.product("AB", repeat=length):
                        self.assert_played(list(rule), "".join(points))

    def test_many_strings_of_rules_of_up_to_four_races(self):
        dice = random.Random(1)
        for rule in RULES:
            for length in [1, 2, 5, 13, 40, 150, 400]:
                for _ in range(6):
                    self.assert_played(rule, random_points(dice, length))

    def test_random_rules(self):
        dice = random.Random(2)
        for _ in range(400):
            rule = [dice.choice(short_races(4)) for _ in range(dice.randrange(5))]
            self.assert_played(rule, random_points(dice, dice.randrange(60)))

    def test_the_empty_rule(self):
        self.assertEqual(play([], ""), (None, []))
        self.assertEqual(play([], "A"), ("A", []))
        self.assertEqual(play([], "B"), ("B", []))
        self.assert_fails(MatchOver, 1, play, [], "AB")

    def test_the_end_of_a_match(self):
        rule = [(2, 1), (2, 2), (1, 1)]
        self.assertEqual(play(rule, "AAA"), (None, [(1, 0), (1, 0), (0, 0)]))
        self.assertEqual(play(rule, "AAAA"), ("A", [(0, 0), (0, 0), (1, 0)]))
        self.assertEqual(play(rule, "BBBB"), ("B", [(0, 0), (0, 0), (0, 1)]))
        self.assertEqual(play([(3, 1)], "ABABA"), ("A", [(3, 2)]))

    def test_long_strings(self):
        self.assertEqual(play([(2, 2)], "AB" * 1000), (None, [(1000, 1000)]))
        self.assertEqual(play([(12, 12)], "AABB" * 499 + "BBBB"), (None, [(998, 1002)]))
        won = "AB" * 990 + "A" * 10
        self.assertEqual(play([(10, 10)], won), ("A", [(1000, 990)]))
        longest = alternating([(12, 2), (6, 2), (2, 1), (3, 1)], 700)
        self.assert_played([(12, 2), (6, 2), (2, 1), (3, 1)], longest)
        self.assert_played([(5, 1), (5, 1), (5, 1), (4, 1)], "AABAABABAA" * 200)

    def test_long_whole_matches(self):
        for rule in RULES:
            for side in "AB":
                size = course(rule, side * 2000)
                self.assertIsNotNone(size)
                self.assertEqual(play(rule, side * size)[0], side)
                self.assertIsNone(play(rule, side * (size - 1))[0])


class ProgressTest(RuleCase):
    def test_each_list_is_that_of_play(self):
        dice = random.Random(3)
        for rule in RULES:
            points = random_points(dice, 80)
            points = points[:course(rule, points)]
            found = list(progress(rule, points))
            wanted = [play(rule, points[:k])[1] for k in range(len(points) + 1)]
            self.assertEqual(found, wanted)

    def test_a_changed_list_changes_nothing(self):
        rule = [(2, 1), (2, 2)]
        wanted = list(progress(rule, "ABAABB"))
        found = []
        for scores in progress(rule, "ABAABB"):
            found.append(list(scores))
            scores[0] = (9, 9)
            scores.pop()
        self.assertEqual(found, wanted)

    def test_all_lists_are_new(self):
        found = list(progress([(3, 1)], "AB")) + list(progress([], "A"))
        self.assertEqual(len({id(scores) for scores in found}), len(found))

    def test_a_rule_that_is_changed_meanwhile(self):
        rule = [(2, 1), (2, 2)]
        wanted = list(progress(rule, "ABAA"))
        found = []
        for scores in progress(rule, "ABAA"):
            found.append(scores)
            rule[0] = (7, 7)
            rule.append((1, 1))
        self.assertEqual(found, wanted)

    def test_no_point_and_the_empty_rule(self):
        self.assertEqual(list(progress([(2, 1)], "")), [[(0, 0)]])
        self.assertEqual(list(progress([], "")), [[]])
        self.assertEqual(list(progress([], "B")), [[], []])

    def test_two_walks_at_once(self):
        first, second = progress([(2, 1)], "AB"), progress([(2, 1)], "BB")
        self.assertEqual([next(first), next(second)], [[(0, 0)], [(0, 0)]])
        self.assertEqual([next(first), next(second)], [[(1, 0)], [(0, 1)]])
        self.assertEqual([next(first), next(second)], [[(1, 1)], [(0, 2)]])


class CourseTest(RuleCase):
    def test_points_behind_the_end(self):
        self.assertEqual(course([(2, 1)], "ABAABB"), 3)
        self.assertEqual(course([(2, 1)], "ABA"), 3)
        self.assertEqual(course([], "BAAB"), 1)
        self.assertEqual(course([(12, 1)], "A" * 2000), 12)

    def test_none_over(self):
        self.assertIsNone(course([(2, 1)], "AB"))
        self.assertIsNone(course([(2, 1)], ""))
        self.assertIsNone(course([], ""))
        self.assertIsNone(course([(2, 2)], "AB" * 1000))


class ErrorsTest(RuleCase):
    def test_rule_check_comes_first(self):
        for rule, index in WRONG_RULES:
            for call in CALLS:
                for points in ["", "A", "AxA", "A" * 100]:
                    self.assert_fails(InvalidRace, index, call, rule, points)

    def test_characters_come_before_the_end_of_the_match(self):
        for points, index in [("x", 0), ("a", 0), ("AAb", 2), ("AAAA A", 4), ("BxAy", 1),
                              ("ABA\n", 3), ("A" * 50 + "-", 50)]:
            for rule in [[], [(2, 1)], [(2, 2), (2, 1)]]:
                for call in CALLS:
                    self.assert_fails(InvalidPoints, index, call, rule, points)

    def test_points_behind_the_end(self):
        for call in [play, CALLS[2]]:
            self.assert_fails(MatchOver, 1, call, [], "AA")
            self.assert_fails(MatchOver, 3, call, [(2, 1)], "ABAB")
            self.assert_fails(MatchOver, 2, call, [(2, 2)], "BBAAAA")
            self.assert_fails(MatchOver, 8, call, [(2, 1), (2, 2)], "AABBAAAAB")

    def test_no_error_at_the_end_of_the_match(self):
        for rule, points in [([], "A"), ([(2, 1)], "ABA"), ([(2, 1), (2, 2)], "AABBAAAA")]:
            self.assertEqual(play(rule, points)[0], "A")
            self.assertEqual(len(list(progress(rule, points))), len(points) + 1)

    def test_nothing_is_changed_by_an_error(self):
        rule = [(2, 1), (2, 3)]
        for call in CALLS:
            self.assert_fails(InvalidRace, 1, call, rule, "A")
        self.assertEqual(rule, [(2, 1), (2, 3)])


class CallsTest(unittest.TestCase):
    def test_arguments_by_name(self):
        self.assertEqual(play(points="A", rule=[(2, 1)]), (None, [(1, 0)]))
        self.assertEqual(list(progress(points="A", rule=[])), [[], []])
        self.assertEqual(course(points="AA", rule=[(2, 1)]), 2)

    def test_the_rule_is_not_modified(self):
        rule = [(2, 1), (2, 2)]
        play(rule, "AAAB")
        list(progress(rule, "AAAA"))
        course(rule, "AAAAB")
        self.assertEqual(rule, [(2, 1), (2, 2)])

    def test_a_result_and_the_rule_are_apart(self):
        rule = [(2, 1), (2, 2)]
        winner, scores = play(rule, "AAA")
        scores[0] = (7, 7)
        scores.append((9, 9))
        self.assertEqual(rule, [(2, 1), (2, 2)])
        self.assertEqual(play(rule, "AAA"), (None, [(1, 0), (1, 0)]))
        rule[0] = (5, 5)
        self.assertEqual((winner, scores), (None, [(7, 7), (1, 0), (9, 9)]))

    def test_kinds_of_the_results(self):
        found = play([(2, 1)], "A")
        self.assertIs(type(found), tuple)
        self.assertIs(type(found[1]), list)
        self.assertIs(type(found[1][0]), tuple)
        self.assertIs(type(next(progress([], ""))), list)

    def test_each_function_is_defined_in_its_file(self):
        for name in ["play", "progress", "course"]:
            self.assertEqual(getattr(rules, name).__module__, "winbytwo.rules")

    def test_example_of_the_document(self):
        rule = [(2, 1), (2, 2)]
        found = [play(rule, "ABA"), play(rule, "AAAA"), course(rule, "AABBAAAA"),
                 list(progress([(2, 2)], "AA"))]
        wanted = [(None, [(0, 0), (1, 0)]), ("A", [(0, 0), (2, 0)]), 8,
                  [[(0, 0)], [(1, 0)], [(2, 0)]]]
        self.assertEqual(found, wanted)


if __name__ == "__main__":
    unittest.main()
