"""Tests of points 2 to 6 and of winbytwo/counting.py."""

import random
import unittest

from machines import slow_counts, slow_matches
from scoring import ErrorCase, OTHER, WRONG_RULES, play_slowly, short_rules
from winbytwo import counting
from winbytwo.counting import (count_matches, longest_match, match_number, nth_match,
                               shortest_match)
from winbytwo.errors import InvalidNumber, InvalidPoints, InvalidRace, InvalidSide, MatchOver

LENGTH = 11
LARGE = [[(4, 2), (6, 2), (2, 1)], [(3, 2), (3, 2), (3, 2)], [(2, 1), (2, 1), (2, 1), (2, 1)],
         [(2, 2), (3, 1), (2, 2), (2, 1)], [(12, 12)], [(12, 2), (4, 1)], [(12, 1)], [(9, 5)],
         [(1, 1), (3, 3), (1, 1), (6, 2)], [(5, 5), (4, 4)], [(3, 2), (2, 2), (3, 2), (3, 1)]]


def slow_number(rule, points):
    """Count all matches of this length and winner that come before."""
    winner = points[-1]
    number = 0
    for at, side in enumerate(points):
        if side == "B":
            more = len(points) - at - 1
            before = points[:at] + "A"
            end, early, _ = play_slowly(rule, before)
            if end is None:
                number += slow_counts(rule, more, before)[winner][more]
            elif more == 0 and early == winner:
                number += 1
    return number


def last_length(rule, most):
    """The greatest length of up to `most` points for which A wins some match."""
    while not count_matches(rule, most):
        most -= 1
    return most


class SlowCountingTest(unittest.TestCase):
    def test_both_ways_to_count_slowly_agree(self):
        for rule in short_rules(4, 3):
            matches = slow_matches(rule, 9)
            counts = slow_counts(rule, 9)
            for length in range(10):
                for side in "AB":
                    self.assertEqual(len(matches.get((length, side), [])), counts[side][length])


class CountMatchesTest(unittest.TestCase):
    def test_all_strings_of_short_rules(self):
        for rule in short_rules(6, 3):
            matches = slow_matches(rule, LENGTH)
            for length in range(LENGTH + 1):
                wanted = len(matches.get((length, "A"), []))
                self.assertEqual(count_matches(rule, length), wanted, (rule, length))

    def test_long_lengths(self):
        for rule, lengths in [([(2, 2)], [2, 3, 150, 299, 300]), ([(4, 2)], [150, 299, 300]),
                              ([(12, 1)], [11, 12, 20, 23, 24, 300]), ([(3, 3), (2, 2)], [120, 121]),
                              ([(2, 1), (2, 1), (3, 1)], [12, 30, 45, 46, 300]),
                              ([(12, 12)], [12, 13, 299, 300]), ([(12, 7)], [12, 150, 251, 300]),
                              ([(3, 2), (2, 1)], [60, 61]), ([(2, 2), (2, 1), (2, 2)], [60, 61, 62])]:
            counts = slow_counts(rule, max(lengths))["A"]
            for length in lengths:
                self.assertEqual(count_matches(rule, length), counts[length], (rule, length))

    def test_the_empty_rule(self):
        for rule in [[], [(1, 1)], [(1, 1), (1, 1)]]:
            self.assertEqual([count_matches(rule, length) for length in [0, 1, 2, 300]], [0, 1, 0, 0])

    def test_great_rules_of_great_length(self):
        self.assertEqual(count_matches([(2, 2)], 300), 2 ** 149)
        self.assertEqual(count_matches([(12, 12), (12, 12), (3, 3)], 300), 0)
        self.assertEqual(count_matches([(5, 4), (5, 4), (5, 4), (4, 3)], 300), 0)
        self.assertEqual(count_matches([(144, 144)], 144), 1)
        self.assertEqual(count_matches([(144, 144)], 146), 144)
        self.assertEqual(count_matches([(12, 12), (12, 12)], 146), 144)
        self.assertGreater(count_matches([(4, 2), (6, 2), (2, 1)], 300), 10 ** 70)

    def test_all_matches_of_a_rule_that_must_end(self):
        # The chance of a match of L points is 2 ** -L: in all they make 1.
        for rule in [[(2, 1), (2, 1), (2, 1), (2, 1)], [(3, 1), (4, 1), (2, 1)], [(12, 1), (3, 1)]]:
            longest = longest_match(rule)
            sums = sum(count_matches(rule, length) * 2 ** (longest - length)
                       for length in range(longest + 1))
            self.assertEqual(2 * sums, 2 ** longest)


class NumberingTest(unittest.TestCase):
    def assert_numbered(self, rule, length, winner, numbers):
        """Check matches with these numbers, ascending, one by one."""
        before = None
        for number in numbers:
            points = nth_match(rule, length, winner, number)
            self.assertEqual(len(points), length)
            self.assertEqual(play_slowly(rule, points)[:2], (length, winner))
            self.assertEqual(match_number(rule, points), number, (rule, points))
            if before is not None:
                self.assertLess(before, points)
            before = points

    def test_all_strings_of_short_rules(self):
        for rule in short_rules(4, 3):
            for (length, winner), wanted in slow_matches(rule, LENGTH).items():
                found = [nth_match(rule, length, winner, number) for number in range(len(wanted))]
                self.assertEqual(found, wanted, (rule, length, winner))
                numbers = [match_number(rule, points) for points in wanted]
                self.assertEqual(numbers, list(range(len(wanted))))

    def test_rules_of_three_and_four_races(self):
        for rule in [[(2, 1), (2, 1), (2, 1)], [(2, 2), (1, 1), (2, 1)], [(2, 1), (2, 2), (2, 1)],
                     [(1, 1), (2, 1), (1, 1), (3, 2)]]:
            for (length, winner), wanted in slow_matches(rule, 12).items():
                for number in range(0, len(wanted), 7):
                    self.assertEqual(nth_match(rule, length, winner, number), wanted[number])
                    self.assertEqual(match_number(rule, wanted[number]), number)

    def test_first_last_and_neighbouring_numbers(self):
        dice = random.Random(1)
        for rule in LARGE:
            for length in [last_length(rule, 120), last_length(rule, 90)]:
                many = count_matches(rule, length)
                some = dice.randrange(many)
                numbers = {0, 1, 2, some, some + 1, many - 2, many - 1}
                numbers = sorted(number for number in numbers if 0 <= number < many)
                self.assert_numbered(rule, length, dice.choice("AB"), numbers)

    def test_lengths_of_about_thirty_against_slow_counting(self):
        dice = random.Random(2)
        for rule in [rule for rule in LARGE if shortest_match(rule) < 30]:
            length = last_length(rule, 32)
            many = count_matches(rule, length)
            for winner in "AB":
                points = nth_match(rule, length, winner, dice.randrange(many))
                self.assertEqual(match_number(rule, points), slow_number(rule, points))

    def test_exchanged_sides_count_from_the_other_end(self):
        for rule in LARGE[:4]:
            length = last_length(rule, 60)
            many = count_matches(rule, length)
            for number in [0, many // 3, many - 1]:
                points = nth_match(rule, length, "A", number)
                other = "".join(OTHER[side] for side in points)
                self.assertEqual(match_number(rule, other), many - 1 - number)
                self.assertEqual(nth_match(rule, length, "B", many - 1 - number), other)

    def test_the_empty_rule(self):
        for rule in [[], [(1, 1)], [(1, 1), (1, 1)]]:
            for winner in "AB":
                self.assertEqual(nth_match(rule, 1, winner, 0), winner)
                self.assertEqual(match_number(rule, winner), 0)

    def test_great_races(self):
        for rule in [[(60, 60)], [(5, 5), (12, 12)]]:
            self.assert_numbered(rule, 62, "A", range(0, 60, 20))
            self.assertEqual(nth_match(rule, 62, "B", 0), "A" + "B" * 61)
            self.assert_numbered(rule, 120, "B", [0, 10 ** 20, count_matches(rule, 120) - 1])
        self.assert_numbered([(100, 50)], 119, "A", [12345, 12346])


class ShortestAndLongestTest(unittest.TestCase):
    def test_short_rules(self):
        for rule in short_rules(5, 3):
            lengths = sorted({length for length, _ in slow_matches(rule, LENGTH)})
            self.assertEqual(shortest_match(rule), lengths[0])
            if all(m == 1 for _, m in rule):
                longest = longest_match(rule)
                self.assertEqual([longest] if longest <= LENGTH else [], [
                    length for length in lengths if length >= longest])
            else:
                self.assertIsNone(longest_match(rule))
                self.assertGreaterEqual(lengths[-1], LENGTH - 4)

    def test_larger_rules(self):
        for rule in LARGE:
            shortest = shortest_match(rule)
            self.assertIsNone(play_slowly(rule, "B" * (shortest - 1))[0])
            self.assertEqual(play_slowly(rule, "B" * shortest)[0], shortest)
        self.assertEqual([shortest_match(rule) for rule in LARGE],
                         [48, 27, 16, 24, 12, 48, 12, 9, 18, 20, 54])
        self.assertEqual([longest_match(rule) for rule in LARGE],
                         [None, None, 81, None, None, None, 23, None, None, None, None])

    def test_the_longest_match_is_one(self):
        for rule in [[(2, 1)], [(3, 1)], [(12, 1)], [(2, 1), (3, 1)], [(5, 1), (2, 1), (2, 1)]]:
            longest = longest_match(rule)
            counts = slow_counts(rule, longest + 3)["A"]
            self.assertGreater(counts[longest], 0)
            self.assertEqual(counts[longest + 1:], [0, 0, 0])

    def test_none_where_a_race_asks_for_a_lead_of_two(self):
        for rule in [[(2, 2)], [(2, 1), (4, 2)], [(4, 2), (2, 1)], [(1, 1), (3, 3), (1, 1)],
                     [(2, 1), (2, 1), (12, 12), (2, 1)]]:
            self.assertIsNone(longest_match(rule))

    def test_races_of_one_unit(self):
        for rule in [[], [(1, 1)], [(1, 1), (1, 1)]]:
            self.assertEqual([shortest_match(rule), longest_match(rule)], [1, 1])
        self.assertEqual(longest_match([(1, 1), (3, 1), (1, 1)]), 5)


class ErrorsTest(ErrorCase):
    def test_rule_check_comes_first(self):
        for rule, index in WRONG_RULES:
            self.assert_fails(InvalidRace, index, shortest_match, rule)
            self.assert_fails(InvalidRace, index, longest_match, rule)
            for length in [-1, 0, 5]:
                self.assert_fails(InvalidRace, index, count_matches, rule, length)
                self.assert_fails(InvalidRace, index, nth_match, rule, length, "C", -1)
            for points in ["", "x", "AAAAAAA"]:
                self.assert_fails(InvalidRace, index, match_number, rule, points)

    def test_negative_lengths(self):
        for rule in [[], [(2, 1)], [(4, 2), (2, 1)]]:
            for length in [-1, -2, -10 ** 29]:
                self.assert_fails(InvalidNumber, length, count_matches, rule, length)
                self.assert_fails(InvalidNumber, length, nth_match, rule, length, "C", -7)
                self.assert_fails(InvalidNumber, length, nth_match, rule, length, "A", 0)

    def test_other_sides(self):
        for winner in ["C", "", "a", "b", "AB", "AA", "BA", " A", "None"]:
            for length, number in [(0, 0), (2, 0), (2, -1), (3, 10 ** 29), (120, 5)]:
                self.assert_fails(InvalidSide, winner, nth_match, [(2, 1)], length, winner, number)

    def test_numbers_of_matches_that_there_are_not(self):
        for rule in [[], [(1, 1)], [(2, 1)], [(2, 2)], [(2, 1), (2, 1)], [(4, 2)]]:
            for length in range(9):
                many = count_matches(rule, length)
                for winner in "AB":
                    for number in [-1, -2, many, many + 1, 10 ** 29, -10 ** 29]:
                        self.assert_fails(InvalidNumber, number, nth_match, rule, length, winner,
                                          number)

    def test_no_match_of_this_length(self):
        for rule, length in [([], 0), ([], 2), ([(2, 1)], 0), ([(2, 1)], 4), ([(2, 2)], 119),
                             ([(12, 12), (12, 12)], 120), ([(12, 1)], 24)]:
            self.assert_fails(InvalidNumber, 0, nth_match, rule, length, "A", 0)

    def test_points_check_of_match_number(self):
        for points, index in [("x", 0), ("AAx", 2), ("AAAAB ", 5), ("a", 0)]:
            for rule in [[], [(2, 1)], [(2, 2), (2, 1)]]:
                self.assert_fails(InvalidPoints, index, match_number, rule, points)
        self.assert_fails(MatchOver, 2, match_number, [(2, 1)], "AAB")
        self.assert_fails(MatchOver, 1, match_number, [], "BB")
        self.assert_fails(MatchOver, 4, match_number, [(2, 2), (1, 1), (2, 2)][:2], "ABBBB")

    def test_points_that_are_not_over(self):
        for rule, points in [([], ""), ([(1, 1)], ""), ([(2, 1)], ""), ([(2, 1)], "AB"),
                             ([(2, 2)], "AB" * 60), ([(4, 2), (2, 1)], "AAAABBBB")]:
            self.assert_fails(InvalidNumber, None, match_number, rule, points)


class CallsTest(unittest.TestCase):
    def test_arguments_by_name(self):
        self.assertEqual(count_matches(length=3, rule=[(2, 1)]), 2)
        self.assertEqual(nth_match(number=1, winner="A", length=3, rule=[(2, 1)]), "BAA")
        self.assertEqual(match_number(points="BAA", rule=[(2, 1)]), 1)
        self.assertEqual([shortest_match(rule=[(2, 1)]), longest_match(rule=[(2, 1)])], [2, 3])

    def test_the_rule_is_not_modified(self):
        for rule in [[], [(1, 1), (2, 1)], [(2, 2), (2, 2), (2, 1)]]:
            kept = list(rule)
            length = shortest_match(rule)
            longest_match(rule)
            count_matches(rule, length)
            match_number(rule, nth_match(rule, length, "B", 0))
            self.assertEqual(rule, kept)

    def test_a_rule_that_is_changed_afterwards(self):
        rule = [(2, 1)]
        self.assertEqual(nth_match(rule, 3, "A", 1), "BAA")
        rule[0] = (2, 2)
        self.assertEqual(nth_match(rule, 4, "A", 1), "BAAA")
        rule.clear()
        self.assertEqual(nth_match(rule, 1, "A", 0), "A")

    def test_each_function_is_defined_in_its_file(self):
        for name in ["count_matches", "nth_match", "match_number", "shortest_match", "longest_match"]:
            self.assertEqual(getattr(counting, name).__module__, "winbytwo.counting")

    def test_example_of_the_document(self):
        rule = [(2, 1), (2, 1)]
        found = [[count_matches(rule, length) for length in [4, 5, 6]],
                 nth_match([(2, 1)], 3, "A", 1), match_number([(2, 1)], "BAA"),
                 shortest_match(rule), longest_match(rule), longest_match([(4, 2)])]
        self.assertEqual(found, [[1, 4, 6], "BAA", 1, 4, 9, None])


if __name__ == "__main__":
    unittest.main()
