"""Tests of points 2 to 7 and 9 and of winbytwo/futures.py."""

import random
import unittest

from machines import future_classes, machine, points_to_states, slow_counts, state_after
from scoring import (ErrorCase, OTHER, WRONG_RULES, WRONG_STRINGS, all_points, exchanged, open_points,
                     play_slowly, points_to, random_open, random_rule, short_rules)
from winbytwo import futures
from winbytwo.counting import count_matches, shortest_match
from winbytwo.errors import InvalidNumber, InvalidRace, InvalidSide
from winbytwo.futures import count_endings, deciding_sides, equal_chances, fewest_points
from winbytwo.reduced import same_future

NEVER = 10 ** 9
GREAT = [[(12, 12), (2, 1)], [(12, 12), (12, 12), (3, 1)], [(12, 2), (6, 2), (2, 1), (3, 1)],
         [(5, 5), (5, 1), (5, 2), (4, 4)], [(2, 2), (12, 1), (12, 11)], [(10, 7), (12, 2), (4, 3)],
         [(2, 1), (2, 2), (2, 1), (12, 6)], [(9, 9), (6, 5), (3, 3), (3, 2)], [(12, 12)], [(12, 1)],
         [(1, 1), (4, 4), (1, 1), (5, 3)], [(3, 2), (3, 2), (3, 2)], [(4, 2), (6, 2), (2, 1)]]


def fewest_from(table, side):
    """For each state of a machine the length of the shortest way to a win."""
    found = dict.fromkeys(table, NEVER)
    found.update({side: 0, OTHER[side]: NEVER})
    changed = True
    while changed:
        changed = False
        for state, ahead in table.items():
            more = 1 + min(found[other] for other in ahead)
            if more < found[state]:
                found[state] = more
                changed = True
    return found


def fewest_by_strings(rule, points, side, most):
    """The length of the shortest further string that wins, NEVER if it has
    more than `most` points."""
    for more in all_points(most):
        if play_slowly(rule, points + more)[:2] == (len(points + more), side):
            return len(more)
    return NEVER


class FewestPointsTest(unittest.TestCase):
    def test_all_further_strings(self):
        for rule in short_rules(4, 2):
            for points in open_points(rule, 5):
                for side in "AB":
                    wanted = fewest_by_strings(rule, points, side, 8)
                    self.assertLessEqual(wanted, 8)
                    self.assertEqual(fewest_points(rule, points, side), wanted, (rule, points))

    def test_all_states_of_short_rules(self):
        for rule in short_rules(9, 3) + [[(2, 2), (6, 5)], [(5, 5), (3, 1)], [(2, 1)] * 4]:
            table = machine(rule)
            strings = points_to_states(rule)
            for side in "AB":
                wanted = fewest_from(table, side)
                for state, points in strings.items():
                    self.assertEqual(fewest_points(rule, points, side), wanted[state],
                                     (rule, points))

    def assert_step_by_step(self, rule, points):
        for side in "AB":
            fewest = fewest_points(rule, points, side)
            behind = []
            for letter in "AB":
                number, winner, _ = play_slowly(rule, points + letter)
                if number is None:
                    behind.append(fewest_points(rule, points + letter, side))
                else:
                    behind.append(0 if winner == side else NEVER)
            self.assertEqual(min(behind), fewest - 1, (rule, points, side))

    def test_step_by_step(self):
        dice = random.Random(1)
        for rule in GREAT + [random_rule(dice) for _ in range(60)]:
            for length in [3, 10, 30, 100, 300]:
                self.assert_step_by_step(rule, random_open(dice, rule, length))

    def test_step_by_step_where_races_are_nearly_lost(self):
        dice = random.Random(2)
        for rule in GREAT:
            for _ in range(20):
                scores = []
                for n, m in rule:
                    low = dice.choice([0, n - m, dice.randrange(n - m + 1)])
                    # One more unit would end the race.
                    high = max(n, low + m) - 1
                    scores.append(dice.choice([(low, high), (high, low), (low, low)]))
                self.assert_step_by_step(rule, points_to(rule, scores))

    def test_to_lose_a_race_can_be_shorter(self):
        rule = [(12, 12), (2, 1)]
        self.assertEqual(fewest_points(rule, "B" * 11, "A"), 1 + 24)
        self.assertEqual(fewest_points(rule, "B" * 11, "B"), 1 + 12)
        self.assertEqual(fewest_points(rule, "B" * 5, "A"), 17 + 12)
        self.assertEqual(fewest_points(rule, "B" * 6, "A"), 6 + 24)
        self.assertEqual(fewest_points([(12, 12)], "B" * 11, "A"), 23)
        # Who is behind in the highest race must win the open one below.
        self.assertEqual(fewest_points(rule, "B" * 23, "A"), 23 + 12)
        self.assertEqual(fewest_points([(2, 1), (12, 12), (2, 1)], "B" * 23, "A"), 1 + 48)

    def test_at_the_start(self):
        for rule in GREAT + short_rules(6, 3):
            for side in "AB":
                self.assertEqual(fewest_points(rule, "", side), shortest_match(rule))

    def test_long_strings(self):
        self.assertEqual(fewest_points([(2, 2)], "AB" * 1000, "A"), 2)
        self.assertEqual(fewest_points([(12, 12)], "AB" * 999 + "A", "B"), 13)
        self.assertEqual(fewest_points([(12, 12)], "AB" * 999 + "A", "A"), 11)
        # A and B win by turns with six points each; at the end A is a race ahead.
        self.assertEqual(fewest_points([(4, 2), (6, 6)], "AABB" * 500, "B"), 2 + 24)


class DecidingSidesTest(unittest.TestCase):
    def assert_deciding(self, rule, points):
        wanted = [side for side in "AB" if play_slowly(rule, points + side)[0] is not None]
        self.assertEqual(deciding_sides(rule, points), wanted, (rule, points))

    def test_all_open_strings_of_short_rules(self):
        for rule in short_rules(4, 3):
            for points in open_points(rule, 6):
                self.assert_deciding(rule, points)

    def test_all_states_of_short_rules(self):
        found = []
        for rule in short_rules(9, 3):
            for points in points_to_states(rule).values():
                self.assert_deciding(rule, points)
                found.append(deciding_sides(rule, points))
        for wanted in [[], ["A"], ["B"], ["A", "B"]]:
            self.assertIn(wanted, found)

    def test_great_rules(self):
        dice = random.Random(3)
        for rule in GREAT:
            for length in [0, 20, 200, 2000]:
                self.assert_deciding(rule, random_open(dice, rule, length))

    def test_each_list_is_new(self):
        for rule, points in [([], ""), ([(2, 1)], ""), ([(3, 1)], "ABAB")]:
            first = deciding_sides(rule, points)
            kept = list(first)
            first.append("C")
            self.assertEqual(deciding_sides(rule, points), kept)
            self.assertIs(type(first), list)


class CountEndingsTest(unittest.TestCase):
    def test_all_further_strings(self):
        for rule in short_rules(4, 2) + [[(2, 1), (2, 1), (2, 1)], [(2, 2), (1, 1), (3, 2)]]:
            for points in open_points(rule, 4):
                ends = [play_slowly(rule, points + more)[:2] + (len(more),) for more in all_points(8)]
                for more in range(9):
                    for side in "AB":
                        wanted = ends.count((len(points) + more, side, more))
                        self.assertEqual(count_endings(rule, points, more, side), wanted,
                                         (rule, points, more, side))

    def test_adding_up_behind_the_next_point(self):
        dice = random.Random(4)
        for rule in GREAT:
            points = random_open(dice, rule, dice.choice([5, 40, 300]))
            for more in [shortest_match(rule) // 2 + 1, 40, 97, 150]:
                for side in "AB":
                    wanted = 0
                    for letter in "AB":
                        number, winner, _ = play_slowly(rule, points + letter)
                        if number is None:
                            wanted += count_endings(rule, points + letter, more - 1, side)
                        else:
                            wanted += int(winner == side and more == 1)
                    self.assertEqual(count_endings(rule, points, more, side), wanted, (rule, points))

    def test_against_slow_counting(self):
        dice = random.Random(5)
        for rule in short_rules(6, 2)[::3] + [[(4, 2), (2, 1)], [(2, 1), (2, 2), (2, 1)]]:
            points = random_open(dice, rule, 9)
            counts = slow_counts(rule, 40, points)
            for more in [0, 1, 5, 17, 39, 40]:
                for side in "AB":
                    self.assertEqual(count_endings(rule, points, more, side), counts[side][more])

    def test_the_empty_string(self):
        for rule in GREAT + short_rules(4, 3):
            for more in [0, 1, 2, 12, 60, 149, 150]:
                wanted = count_matches(rule, more)
                self.assertEqual(count_endings(rule, "", more, "A"), wanted)
                self.assertEqual(count_endings(rule, "", more, "B"), wanted)

    def test_no_further_point(self):
        for rule, points in [([], ""), ([(2, 1)], "AB"), ([(2, 2)], "A")]:
            self.assertEqual(count_endings(rule, points, 0, "A"), 0)
            self.assertEqual(count_endings(rule, points, 1, "A"), int(points != "" or rule == []))

    def test_long_strings(self):
        self.assertEqual(count_endings([(2, 2)], "AB" * 1000, 150, "B"), 2 ** 74)
        self.assertEqual(count_endings([(12, 12)], "AB" * 999 + "A", 11, "A"), 1)
        self.assertEqual(count_endings([(12, 12)], "AB" * 999 + "A", 11, "B"), 0)
        self.assertEqual(count_endings([(12, 12)], "AB" * 999 + "A", 13, "A"), 11)


class EqualChancesTest(unittest.TestCase):
    def assert_equal_chances(self, rule, classes, points):
        state = state_after(rule, points)
        other = tuple((b, a) for a, b in state)
        self.assertIs(equal_chances(rule, points), classes[state] == classes[other], (rule, points))

    def test_all_short_open_strings(self):
        found = []
        for rule in short_rules(6, 3) + [[(3, 3), (3, 2)], [(2, 2), (5, 2)], [(2, 2), (2, 1), (2, 2)]]:
            classes = future_classes([rule])[0]
            for points in open_points(rule, 7):
                self.assert_equal_chances(rule, classes, points)
                found.append(equal_chances(rule, points) and points.count("A") != points.count("B"))
        # Not only strings with as many points of both sides.
        self.assertIn(True, found)

    def test_all_states_of_some_rules(self):
        dice = random.Random(6)
        for rule in dice.sample(short_rules(24, 4), 40) + [[(2, 2), (4, 2)], [(3, 3), (5, 4)]]:
            classes = future_classes([rule])[0]
            for points in points_to_states(rule).values():
                self.assert_equal_chances(rule, classes, points)

    def test_against_the_exchanged_string(self):
        dice = random.Random(7)
        for rule in GREAT:
            for length in [0, 2, 10, 40, 2000]:
                points = random_open(dice, rule, length)
                wanted = same_future(rule, points, exchanged(points))
                self.assertIs(equal_chances(rule, points), wanted)

    def test_all_levels_must_be_level(self):
        rule = [(3, 3), (4, 2), (2, 1)]
        for scores, wanted in [([(0, 0), (3, 3), (1, 1)], True), ([(2, 2), (1, 1), (0, 0)], True),
                               ([(7, 7), (5, 5), (1, 1)], True), ([(0, 2), (3, 2), (0, 0)], False),
                               ([(1, 0), (2, 2), (0, 0)], False), ([(0, 0), (3, 2), (1, 1)], False),
                               ([(2, 2), (2, 2), (1, 0)], False)]:
            self.assertIs(equal_chances(rule, points_to(rule, scores)), wanted, scores)
        # As many points of both sides, but A has won a race.
        self.assertIs(equal_chances([(3, 2), (2, 1)], "BBAAAABB"), False)
        self.assertIs(equal_chances([(4, 2), (2, 1)], "BBAAAABBBB"), True)

    def test_at_the_start(self):
        for rule in GREAT + short_rules(4, 4):
            self.assertIs(equal_chances(rule, ""), True)


class ErrorsTest(ErrorCase):
    def test_rule_check_comes_first(self):
        for rule, index in WRONG_RULES:
            for points in ["", "x", "AAAAAAAAA"]:
                self.assert_fails(InvalidRace, index, fewest_points, rule, points, "C")
                self.assert_fails(InvalidRace, index, deciding_sides, rule, points)
                self.assert_fails(InvalidRace, index, count_endings, rule, points, -1, "C")
                self.assert_fails(InvalidRace, index, equal_chances, rule, points)

    def test_open_check_comes_next(self):
        for rule, points, wanted, value in WRONG_STRINGS:
            self.assert_fails(wanted, value, deciding_sides, rule, points)
            self.assert_fails(wanted, value, equal_chances, rule, points)
            for side in ["A", "B", "C"]:
                self.assert_fails(wanted, value, fewest_points, rule, points, side)
                for more in [-1, 0, 5]:
                    self.assert_fails(wanted, value, count_endings, rule, points, more, side)

    def test_negative_numbers_come_before_sides(self):
        for rule in [[], [(2, 1)], [(2, 2), (1, 1)]]:
            for more in [-1, -2, -10 ** 29]:
                for side in ["A", "B", "C", ""]:
                    self.assert_fails(InvalidNumber, more, count_endings, rule, "", more, side)

    def test_other_sides(self):
        for rule in [[], [(2, 1)], [(2, 2), (1, 1)]]:
            for side in ["C", "", "a", "b", "AB", "AA", " A", "None"]:
                self.assert_fails(InvalidSide, side, fewest_points, rule, "", side)
                for more in [0, 1, 150]:
                    self.assert_fails(InvalidSide, side, count_endings, rule, "", more, side)


class CallsTest(unittest.TestCase):
    def test_arguments_by_name(self):
        self.assertEqual(fewest_points(side="A", points="B", rule=[(2, 2)]), 3)
        self.assertEqual(deciding_sides(points="A", rule=[(2, 1)]), ["A"])
        self.assertEqual(count_endings(side="B", more=3, points="A", rule=[(2, 2)]), 1)
        self.assertIs(equal_chances(points="A", rule=[(2, 2)]), False)

    def test_the_rule_is_not_modified(self):
        for rule in [[], [(1, 1), (2, 2), (2, 2)], [(2, 2), (2, 1), (1, 1)]]:
            kept = list(rule)
            fewest_points(rule, "", "A")
            deciding_sides(rule, "")
            count_endings(rule, "", 9, "A")
            equal_chances(rule, "")
            self.assertEqual(rule, kept)

    def test_a_rule_that_is_changed_afterwards(self):
        rule = [(2, 1)]
        self.assertEqual(fewest_points(rule, "A", "B"), 2)
        rule[0] = (3, 3)
        self.assertEqual(fewest_points(rule, "A", "B"), 4)
        self.assertEqual(deciding_sides(rule, "A"), [])

    def test_each_function_is_defined_in_its_file(self):
        for name in ["fewest_points", "deciding_sides", "count_endings", "equal_chances"]:
            self.assertEqual(getattr(futures, name).__module__, "winbytwo.futures")

    def test_example_of_the_document(self):
        rule = [(4, 2), (2, 1)]
        found = [fewest_points(rule, "AAAA", "A"), fewest_points(rule, "AAAAB", "B"),
                 deciding_sides([(3, 1)], "ABAB"), count_endings([(2, 2)], "A", 3, "A"),
                 equal_chances([(4, 2)], "AB")]
        self.assertEqual(found, [4, 7, ["A", "B"], 1, True])


if __name__ == "__main__":
    unittest.main()
