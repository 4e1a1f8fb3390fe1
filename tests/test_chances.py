"""Tests of points 2 to 5 and 8 and of winbytwo/chances.py."""

import random
import unittest
from fractions import Fraction
from math import gcd

from machines import machine, next_scores, points_to_states, start_state
from scoring import (ErrorCase, WRONG_RULES, WRONG_STRINGS, exchanged, open_points, play_slowly,
                     points_to, random_open, random_rule, reduced_slowly, short_rules)
from winbytwo import chances
from winbytwo.chances import chance, expected_points
from winbytwo.errors import InvalidNumber, InvalidRace
from winbytwo.futures import equal_chances

ODDS = [(1, 1), (2, 1), (1, 3), (50, 49), (6, 4), (1, 50), (50, 50)]
GREAT = [[(12, 12), (2, 1)], [(12, 12), (12, 12), (3, 1)], [(12, 2), (6, 2), (2, 1), (3, 1)],
         [(5, 5), (5, 1), (5, 2), (4, 4)], [(2, 2), (12, 1), (12, 11)], [(10, 7), (12, 2), (4, 3)],
         [(2, 1), (2, 2), (2, 1), (12, 6)], [(9, 9), (6, 5), (3, 3), (3, 2)], [(12, 12)], [(12, 1)],
         [(1, 1), (4, 4), (1, 1), (5, 3)], [(3, 2), (3, 2), (3, 2)], [(4, 2), (6, 2), (2, 1)],
         [(5, 1), (5, 1), (5, 1), (4, 1)], [(5, 4), (5, 4), (5, 4), (4, 3)]]
LEADS_OF_ONE = [[], [(1, 1)], [(2, 1)], [(3, 1)], [(12, 1)], [(2, 1), (2, 1)], [(3, 1), (2, 1)],
                [(2, 1), (4, 1)], [(2, 1), (2, 1), (2, 1)], [(1, 1), (3, 1), (1, 1), (3, 1)],
                [(5, 1), (5, 1)], [(2, 1), (2, 1), (2, 1), (2, 1)], [(6, 1), (3, 1), (2, 1)]]


def sum_over_matches(rule, points, x, y):
    """Follow all matches of a rule with leads of one unit to their ends: the
    chance that A wins and the expected number of further points."""
    opened, wins, length, whole = {tuple(play_slowly(rule, points)[2][-1]): 1}, 0, 0, 1
    while opened:
        # After t points all numbers are parts of (x + y) ** t.
        length = (length + sum(opened.values())) * (x + y)
        wins, whole = wins * (x + y), whole * (x + y)
        following = {}
        for scores, weight in opened.items():
            for side, part in (("A", x), ("B", y)):
                after = next_scores(rule, scores, side)
                if after is not None:
                    following[after] = following.get(after, 0) + weight * part
                elif side == "A":
                    wins += weight * part
        opened = following
    return Fraction(wins, whole), Fraction(length, whole)


def solved(rows):
    """Solve linear equations: rows of numbers whose last one stands alone."""
    rows = [list(row) for row in rows]
    for at in range(len(rows)):
        swap = next(k for k in range(at, len(rows)) if rows[k][at])
        rows[at], rows[swap] = rows[swap], rows[at]
        rows[at] = [number / rows[at][at] for number in rows[at]]
        for k, row in enumerate(rows):
            if k != at and row[at]:
                part = row[at]
                rows[k] = [one - part * two for one, two in zip(row, rows[at])]
    return [row[-1] for row in rows]


def solved_states(rule, x, y, wins):
    """Solve the equations of all open states: a dict of the chances that A
    wins, or of the expected numbers of points."""
    table = machine(rule)
    states = list(table)
    rows = []
    for state in states:
        row = dict.fromkeys(states, Fraction(0))
        row[state] += 1
        alone = Fraction(0 if wins else 1)
        for other, part in zip(table[state], (Fraction(x, x + y), Fraction(y, x + y))):
            if other in row:
                row[other] -= part
            elif wins and other == "A":
                alone += part
        rows.append([row[other] for other in states] + [alone])
    return dict(zip(states, solved(rows)))


class FractionCase(ErrorCase):
    def as_fraction(self, found):
        """Check the form of a fraction that was returned."""
        self.assertEqual([type(found), len(found)], [tuple, 2])
        numerator, denominator = found
        self.assertEqual([type(numerator), type(denominator)], [int, int])
        self.assertGreaterEqual(denominator, 1)
        self.assertEqual(gcd(numerator, denominator), 1)
        return Fraction(numerator, denominator)

    def chance_of(self, rule, points, x, y):
        """The chance, 1 or 0 if the match is over."""
        number, winner, _ = play_slowly(rule, points)
        if number is not None:
            return Fraction(int(winner == "A"))
        return self.as_fraction(chance(rule, points, x, y))

    def expected_of(self, rule, x, y):
        return self.as_fraction(expected_points(rule, x, y))


class ChanceTest(FractionCase):
    def assert_mean(self, rule, points, x, y):
        wanted = (x * self.chance_of(rule, points + "A", x, y) +
                  y * self.chance_of(rule, points + "B", x, y)) / (x + y)
        self.assertEqual(self.chance_of(rule, points, x, y), wanted, (rule, points, x, y))

    def test_point_by_point_for_all_states_of_short_rules(self):
        dice = random.Random(1)
        for rule in short_rules(8, 3):
            for points in points_to_states(rule).values():
                self.assert_mean(rule, points, *dice.choice(ODDS))

    def test_point_by_point_for_great_rules(self):
        dice = random.Random(2)
        for rule in GREAT + [random_rule(dice) for _ in range(25)]:
            for length in [0, 7, 40, 400]:
                self.assert_mean(rule, random_open(dice, rule, length), *dice.choice(ODDS))

    def test_equations_of_all_states(self):
        for rule in short_rules(5, 3) + [[(2, 2), (3, 2)], [(3, 3), (2, 1)], [(2, 1), (3, 2)]]:
            strings = points_to_states(rule)
            for x, y in [(1, 1), (3, 2), (1, 7)]:
                for state, wanted in solved_states(rule, x, y, True).items():
                    self.assertEqual(self.chance_of(rule, strings[state], x, y), wanted)

    def test_sums_over_all_matches(self):
        dice = random.Random(3)
        for rule in LEADS_OF_ONE:
            for x, y in ODDS:
                points = random_open(dice, rule, dice.choice([0, 3, 20]))
                wanted, _ = sum_over_matches(rule, points, x, y)
                self.assertEqual(self.chance_of(rule, points, x, y), wanted, (rule, points))

    def test_the_rest_to_one(self):
        dice = random.Random(4)
        for rule in GREAT:
            for x, y in ODDS:
                points = random_open(dice, rule, 60)
                found = self.chance_of(rule, points, x, y)
                self.assertEqual(found + self.chance_of(rule, exchanged(points), y, x), 1)

    def test_one_half(self):
        for rule in short_rules(4, 3) + [[(2, 2), (3, 2)], [(3, 3), (4, 1)]]:
            for points in open_points(rule, 5):
                found = chance(rule, points, 7, 7)
                if equal_chances(rule, points):
                    self.assertEqual(found, (1, 2))
        for rule in GREAT:
            self.assertEqual(chance(rule, "", 50, 50), (1, 2))
            tied = points_to(rule, [(n - m, n - m) for n, m in rule])
            self.assertEqual(chance(rule, tied, 3, 3), (1, 2))

    def test_a_lead_alone(self):
        for lead in [1, 2, 3, 7, 12, 144, 432]:
            for x, y in [(2, 1), (1, 2), (50, 49)]:
                wanted = Fraction(x ** lead, x ** lead + y ** lead)
                self.assertEqual(self.chance_of([(lead, lead)], "", x, y), wanted)
            self.assertEqual(chance([(lead, lead)], "", 3, 3), (1, 2))
            self.assertEqual(self.chance_of([(lead, lead)], "A" * (lead - 1), 1, 1),
                             Fraction(2 * lead - 1, 2 * lead))

    def test_long_strings(self):
        self.assertEqual(chance([(2, 2)], "AB" * 1000, 2, 1), (4, 5))
        self.assertEqual(chance([(4, 2)], "AB" * 999 + "A", 1, 1), (3, 4))
        self.assertEqual(chance([(4, 2)], "AB" * 999 + "A", 6, 3),
                         chance([(4, 2)], "ABABABA", 2, 1))

    def test_the_empty_rule(self):
        for rule in [[], [(1, 1)], [(1, 1), (1, 1)]]:
            self.assertEqual(chance(rule, "", 1, 1), (1, 2))
            self.assertEqual(chance(rule, "", 20, 30), (2, 5))


class ExpectedPointsTest(FractionCase):
    def test_equations_of_all_states(self):
        for rule in short_rules(5, 3) + [[(2, 2), (3, 2)], [(3, 3), (2, 1)], [(2, 1), (3, 2)]]:
            for x, y in [(1, 1), (3, 2), (1, 7)]:
                wanted = solved_states(rule, x, y, False)[start_state(rule)]
                self.assertEqual(self.expected_of(rule, x, y), wanted, (rule, x, y))

    def test_sums_over_all_matches(self):
        for rule in LEADS_OF_ONE:
            for x, y in ODDS:
                _, wanted = sum_over_matches(rule, "", x, y)
                self.assertEqual(self.expected_of(rule, x, y), wanted, (rule, x, y))

    def test_a_lead_alone(self):
        for lead in [1, 2, 3, 7, 12, 144, 432]:
            self.assertEqual(expected_points([(lead, lead)], 9, 9), (lead * lead, 1))
            for x, y in [(2, 1), (1, 2), (50, 49), (3, 30)]:
                wins = Fraction(x ** lead, x ** lead + y ** lead)
                wanted = lead * (2 * wins - 1) / Fraction(x - y, x + y)
                self.assertEqual(self.expected_of([(lead, lead)], x, y), wanted)

    def test_races_above_take_their_units(self):
        # Each unit takes as many points as any other one of its level.
        for rule in GREAT:
            for x, y in ODDS:
                wanted = Fraction(1)
                odds = (x, y)
                for race in rule:
                    wanted *= self.expected_of([race], *odds)
                    wins = self.chance_of([race], "", *odds)
                    odds = (wins.numerator, wins.denominator - wins.numerator)
                self.assertEqual(self.expected_of(rule, x, y), wanted)

    def lead_after(self, race, score, x, y):
        """The expected lead of A at the end of a race from a score on at which
        only the lead counts."""
        a, b = score
        if abs(a - b) >= race[1]:
            return a - b
        ahead = "A" * (a - min(score)) + "B" * (b - min(score))
        return race[1] * (2 * self.chance_of([(race[1], race[1])], ahead, x, y) - 1)

    def test_the_expected_lead(self):
        # Each unit gives A the lead (x - y) / (x + y) on average.
        for n, m in [(4, 2), (5, 1), (12, 7), (12, 11), (6, 3)]:
            for x, y in [(2, 1), (1, 3), (50, 49)]:
                lead = Fraction(0)
                opened = {(0, 0): Fraction(1)}
                while opened:
                    following = {}
                    for (a, b), part in opened.items():
                        if max(a, b) >= n or min(a, b) >= n - m:
                            lead += part * self.lead_after((n, m), (a, b), x, y)
                            continue
                        for after, share in (((a + 1, b), x), ((a, b + 1), y)):
                            following[after] = following.get(after, 0) + part * Fraction(share, x + y)
                    opened = following
                self.assertEqual(self.expected_of([(n, m)], x, y) * Fraction(x - y, x + y), lead)

    def test_the_sides_exchanged(self):
        for rule in GREAT:
            for x, y in ODDS:
                self.assertEqual(expected_points(rule, x, y), expected_points(rule, y, x))

    def test_the_empty_rule(self):
        for rule in [[], [(1, 1)], [(1, 1), (1, 1)]]:
            for x, y in ODDS:
                self.assertEqual(expected_points(rule, x, y), (1, 1))


class SameRulesTest(FractionCase):
    def test_rules_that_are_the_same(self):
        dice = random.Random(5)
        for _ in range(60):
            rule = random_rule(dice)
            short = reduced_slowly(rule)
            for x, y in dice.sample(ODDS, 2):
                points = random_open(dice, rule, 30)
                self.assertEqual(chance(rule, points, x, y), chance(short, points, x, y))
                self.assertEqual(expected_points(rule, x, y), expected_points(short, x, y))
        self.assertEqual(chance([(2, 2), (3, 3)], "AAB", 3, 1), chance([(6, 6)], "AAB", 3, 1))
        self.assertEqual(expected_points([(2, 2), (1, 1), (3, 3)], 3, 1),
                         expected_points([(3, 3), (2, 2)], 3, 1))

    def test_common_factors_of_the_numbers(self):
        for rule in GREAT:
            self.assertEqual(chance(rule, "AB", 50, 30), chance(rule, "AB", 5, 3))
            self.assertEqual(expected_points(rule, 50, 30), expected_points(rule, 5, 3))


class ErrorsTest(ErrorCase):
    def test_rule_check_comes_first(self):
        for rule, index in WRONG_RULES:
            for x, y in [(0, 0), (1, 1), (1, -1)]:
                self.assert_fails(InvalidRace, index, expected_points, rule, x, y)
                for points in ["", "x", "AAAAAAAAA"]:
                    self.assert_fails(InvalidRace, index, chance, rule, points, x, y)

    def test_open_check_comes_next(self):
        for rule, points, wanted, value in WRONG_STRINGS:
            for x, y in [(0, 0), (1, 1), (1, -1)]:
                self.assert_fails(wanted, value, chance, rule, points, x, y)

    def test_numbers_below_one(self):
        for rule in [[], [(2, 1)], [(2, 2), (1, 1)]]:
            for x in [0, -1, -10 ** 29]:
                for y in [1, 0, -2]:
                    self.assert_fails(InvalidNumber, x, chance, rule, "", x, y)
                    self.assert_fails(InvalidNumber, x, expected_points, rule, x, y)
                for y in [1, 50]:
                    self.assert_fails(InvalidNumber, x, chance, rule, "", y, x)
                    self.assert_fails(InvalidNumber, x, expected_points, rule, y, x)


class CallsTest(unittest.TestCase):
    def test_arguments_by_name(self):
        self.assertEqual(chance(y=1, x=2, points="", rule=[(2, 1)]), (20, 27))
        self.assertEqual(expected_points(y=1, x=2, rule=[(2, 1)]), (22, 9))

    def test_the_rule_is_not_modified(self):
        for rule in [[], [(1, 1), (2, 2), (2, 2)], [(2, 2), (2, 1), (1, 1)]]:
            kept = list(rule)
            chance(rule, "", 2, 1)
            expected_points(rule, 2, 1)
            self.assertEqual(rule, kept)

    def test_a_rule_that_is_changed_afterwards(self):
        rule = [(2, 1)]
        self.assertEqual(chance(rule, "A", 1, 1), (3, 4))
        rule[0] = (4, 4)
        self.assertEqual(chance(rule, "A", 1, 1), (5, 8))
        self.assertEqual(expected_points(rule, 1, 1), (16, 1))

    def test_each_function_is_defined_in_its_file(self):
        for name in ["chance", "expected_points"]:
            self.assertEqual(getattr(chances, name).__module__, "winbytwo.chances")

    def test_example_of_the_document(self):
        found = [chance([(2, 1)], "", 2, 1), chance([(2, 2)], "B", 1, 1),
                 expected_points([(2, 1)], 2, 1), expected_points([(2, 2)], 1, 1)]
        self.assertEqual(found, [(20, 27), (1, 4), (22, 9), (4, 1)])


if __name__ == "__main__":
    unittest.main()
