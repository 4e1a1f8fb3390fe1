"""Tests of points 2 to 5 and of winbytwo/totals.py."""

import itertools
import random
import unittest

from machines import next_scores, start_state
from scoring import ErrorCase, WRONG_RULES, next_score, play_slowly, short_rules
from winbytwo import totals
from winbytwo.errors import InvalidNumber, InvalidRace
from winbytwo.totals import example_match, is_total, least_lead

LARGE = [[(4, 2), (6, 2), (2, 1)], [(3, 2), (3, 2), (3, 2)], [(2, 1), (2, 1), (2, 1), (2, 1)],
         [(2, 2), (3, 1), (2, 2), (2, 1)], [(12, 12)], [(12, 2), (4, 1)], [(12, 1)], [(9, 5)],
         [(1, 1), (3, 3), (1, 1), (6, 2)], [(5, 5), (4, 4)], [(3, 2), (2, 2), (3, 2), (3, 1)],
         [(2, 1), (2, 2), (2, 1), (2, 2)], [(6, 4), (7, 3)], [(5, 5), (5, 1), (5, 2)],
         [(2, 2), (3, 2), (12, 9)], [(4, 3), (3, 1), (2, 2), (3, 2)], [(2, 1), (3, 2), (2, 1)],
         [(2, 1), (4, 2), (2, 2)], [(2, 1), (4, 3), (2, 2)], [(2, 1), (3, 2), (2, 2)],
         [(2, 2), (4, 3), (2, 1)]]


def sums(first, second, most):
    """All sums of two pairs with at most so many points of both sides."""
    return {(a + c, b + d) for a, b in first for c, d in second if a + c <= most and b + d <= most}


def slow_totals(rule, most):
    """The totals of all ways through the open scores of each race, of at most
    so many points of both sides, as pairs of the winner and the loser."""
    unit = {(1, 0)}
    for race in rule:
        lost = {(b, a) for a, b in unit}
        found = set()
        # By the score, the totals at it; each round adds one more unit.
        opened = {(0, 0): {(0, 0)}}
        while opened:
            following = {}
            for score, pairs in opened.items():
                for side, parts in (("A", unit), ("B", lost)):
                    after, won = next_score(race, score, side)
                    if not won:
                        following.setdefault(after, set()).update(sums(pairs, parts, most))
                    elif side == "A":
                        found |= sums(pairs, parts, most)
            opened = {score: pairs for score, pairs in following.items() if pairs}
        unit = found
    return unit


def totals_through_states(rule, most):
    """The totals of all matches that A wins, of at most so many points in all,
    found by playing through all lists of scores."""
    found = set()
    opened = {(start_state(rule), (0, 0))}
    for _ in range(most):
        following = set()
        for scores, (own, other) in opened:
            for side, pair in (("A", (own + 1, other)), ("B", (own, other + 1))):
                after = next_scores(rule, scores, side)
                if after is not None:
                    following.add((after, pair))
                elif side == "A":
                    found.add(pair)
        opened = following
    return found


class TotalsCase(ErrorCase):
    def assert_total(self, rule, won, lost, wanted):
        """Compare both functions with what is wanted, and play the example."""
        self.assertIs(is_total(rule, won, lost), wanted, (rule, won, lost))
        points = example_match(rule, won, lost)
        if not wanted:
            self.assertIsNone(points, (rule, won, lost))
            return
        self.assertEqual((points.count("A"), points.count("B")), (won, lost))
        self.assertEqual(play_slowly(rule, points)[:2], (won + lost, "A"), (rule, points))


class TotalsTest(TotalsCase):
    def test_both_slow_ways_agree(self):
        for rule in short_rules(4, 3):
            through = totals_through_states(rule, 14)
            by_race = {pair for pair in slow_totals(rule, 14) if sum(pair) <= 14}
            self.assertEqual(through, by_race, rule)

    def test_all_ways_through_the_states_of_short_rules(self):
        for rule in short_rules(6, 3):
            wanted = totals_through_states(rule, 13)
            for won in range(14):
                for lost in range(14 - won):
                    self.assert_total(rule, won, lost, (won, lost) in wanted)

    def test_race_by_race(self):
        for rule in short_rules(9, 3):
            wanted = slow_totals(rule, 16)
            for won, lost in itertools.product(range(17), repeat=2):
                self.assertIs(is_total(rule, won, lost), (won, lost) in wanted, (rule, won, lost))

    def test_large_rules_race_by_race(self):
        for rule in LARGE:
            wanted = slow_totals(rule, 40)
            for won, lost in itertools.product(range(41), repeat=2):
                self.assert_total(rule, won, lost, (won, lost) in wanted)

    def test_four_races_race_by_race(self):
        for rule in [[(2, 1)] * 4, [(2, 2), (2, 1), (2, 2), (2, 1)], [(2, 1), (2, 2), (3, 2)],
                     [(2, 1), (3, 2), (2, 1), (2, 2)], [(3, 2), (2, 1), (2, 2), (2, 1)]]:
            wanted = slow_totals(rule, 48)
            self.assertTrue(wanted)
            for won, lost in itertools.product(range(16, 49, 3), range(0, 49, 2)):
                self.assert_total(rule, won, lost, (won, lost) in wanted)

    def test_one_race_of_great_totals(self):
        for n, m in [(12, 1), (12, 2), (12, 12), (7, 3), (2, 2), (400, 1), (300, 200)]:
            dice = random.Random(n)
            for _ in range(60):
                lost = dice.randrange(401)
                for won in {n, lost + m, lost + m + 1, lost + m - 1, dice.randrange(401)}:
                    short = won == n and lost <= n - m
                    longer = m > 1 and won > n and won - lost == m
                    self.assert_total([(n, m)], won, lost, short or longer)

    def test_two_races_of_great_totals(self):
        # Where one unit of lead is enough, the units of the losers are free.
        for n, race in [(2, (2, 2)), (3, (4, 2)), (7, (12, 5)), (12, (12, 1)), (12, (5, 4))]:
            dice = random.Random(n)
            for _ in range(40):
                won, lost = dice.randrange(100, 401), dice.randrange(401)
                wanted = False
                for b in range(200 if race[1] > 1 else race[0]):
                    a = max(race[0], b + race[1])
                    wanted = wanted or (0 <= won - a * n <= b * (n - 1) and
                                        0 <= lost - b * n <= a * (n - 1))
                self.assert_total([(n, 1), race], won, lost, wanted)

    def test_great_totals_of_large_rules(self):
        for rule in LARGE:
            shortest = 1
            for n, _ in rule:
                shortest *= n
            for won, lost in itertools.product([shortest, 100, 399, 400], [0, 99, 398, 400]):
                self.assert_total(rule, won, lost, is_total(rule, won, lost))
            self.assert_total(rule, shortest, 0, True)
            self.assert_total(rule, shortest - 1, 0, False)
        for won, lost in [(400, 400), (399, 400), (400, 399)]:
            for rule in [[(4, 2), (6, 2), (2, 1)], [(2, 1), (2, 2), (2, 1), (2, 2)], [(3, 2), (3, 2)]]:
                self.assert_total(rule, won, lost, True)

    def test_a_winner_with_fewer_points(self):
        self.assert_total([(3, 1), (2, 1)], 6, 7, True)
        self.assert_total([(3, 1), (2, 1)], 6, 8, False)
        # 50 units of (4, 2) for A, 48 of (4, 0) for B.
        self.assert_total([(4, 2), (2, 2)], 200, 292, True)
        self.assert_total([(4, 2), (2, 2)], 200, 293, False)
        self.assert_total([(3, 3), (3, 1)], 200, 200 - 2, False)
        self.assert_total([(3, 3), (3, 1)], 200, 200 - 3, True)
        self.assert_total([(3, 3), (3, 3)], 200, 200 - 3, False)

    def test_the_empty_rule(self):
        for rule in [[], [(1, 1)], [(1, 1), (1, 1)]]:
            for won, lost in itertools.product(range(4), repeat=2):
                self.assert_total(rule, won, lost, (won, lost) == (1, 0))


class LeastLeadTest(unittest.TestCase):
    def test_against_the_totals(self):
        for rule in short_rules(8, 3):
            longest = 1
            for n, _ in rule:
                longest *= 2 * n - 1
            if longest <= 27:
                some = min(won - lost for won, lost in slow_totals(rule, longest))
                more = min(won - lost for won, lost in slow_totals(rule, longest + 9))
                self.assertEqual(least_lead(rule), some if some == more else None, rule)

    def test_races_that_only_ask_for_a_lead(self):
        for rule, lead in [([(2, 2)], 2), ([(12, 12)], 12), ([(5, 5), (4, 4)], 20),
                           ([(2, 2), (3, 2)], 4), ([(3, 3), (2, 2), (12, 5)], 30),
                           ([(2, 2), (3, 2), (1, 1)], 4)]:
            self.assertEqual(least_lead(rule), lead)

    def test_leads_of_one_unit_above(self):
        # (4, 2) leads by 2 to 4 points: twice 2 less 4, and twice 0 less 8.
        self.assertEqual(least_lead([(4, 2)]), 2)
        self.assertEqual(least_lead([(4, 2), (2, 1)]), 0)
        self.assertEqual(least_lead([(4, 2), (2, 1), (2, 1)]), -8)
        self.assertEqual(least_lead([(4, 2), (2, 1), (2, 1), (2, 1)]), 2 * -8 - 16)
        # From -1 to 6, and from 3 * -1 - 2 * 6 to 3 * 6 - 2 * -1.
        self.assertEqual(least_lead([(3, 1), (2, 1)]), -1)
        self.assertEqual(least_lead([(3, 1), (2, 1), (3, 1)]), -15)
        self.assertEqual(least_lead([(3, 1), (2, 1), (3, 1), (2, 1)]), -30 - 20)

    def test_none_where_there_is_no_least_one(self):
        for rule in [[(2, 1), (2, 2)], [(4, 2), (6, 2), (2, 1)], [(3, 2), (3, 3)],
                     [(2, 2), (3, 2), (2, 2)], [(2, 1), (1, 1), (2, 2), (1, 1)],
                     [(3, 1), (2, 1), (4, 4)], [(2, 2), (3, 1), (2, 1), (4, 3)]]:
            self.assertIsNone(least_lead(rule))

    def test_no_points_but_one(self):
        for rule in [[], [(1, 1)], [(1, 1), (1, 1)], [(12, 1)]]:
            self.assertEqual(least_lead(rule), 1)


class ErrorsTest(ErrorCase):
    def test_rule_check_comes_first(self):
        for rule, index in WRONG_RULES:
            self.assert_fails(InvalidRace, index, least_lead, rule)
            for call in [is_total, example_match]:
                for won, lost in [(0, 0), (4, 2), (-1, -1), (4, -1), (-1, 4)]:
                    self.assert_fails(InvalidRace, index, call, rule, won, lost)

    def test_negative_numbers(self):
        for call in [is_total, example_match]:
            for rule in [[], [(2, 1)], [(4, 2), (2, 1)]]:
                for number in [-1, -5, -10 ** 29]:
                    self.assert_fails(InvalidNumber, number, call, rule, number, 0)
                    self.assert_fails(InvalidNumber, number, call, rule, number, -2)
                    self.assert_fails(InvalidNumber, number, call, rule, 0, number)
                    self.assert_fails(InvalidNumber, number, call, rule, 400, number)

    def test_no_points(self):
        for rule in [[], [(2, 1)], [(4, 2), (2, 1)]]:
            self.assertIs(is_total(rule, 0, 0), False)
            self.assertIsNone(example_match(rule, 0, 0))
            self.assertIs(is_total(rule, 0, 400), False)


class CallsTest(unittest.TestCase):
    def test_arguments_by_name(self):
        self.assertIs(is_total(lost=1, won=2, rule=[(2, 1)]), True)
        self.assertIs(is_total(lost=2, won=1, rule=[(2, 1)]), False)
        self.assertIn(example_match(lost=1, won=2, rule=[(2, 1)]), ["ABA", "BAA"])
        self.assertEqual(least_lead(rule=[(3, 1), (2, 1)]), -1)

    def test_the_rule_is_not_modified(self):
        for rule in [[], [(1, 1), (2, 2), (2, 2)], [(2, 2), (2, 1), (1, 1)]]:
            kept = list(rule)
            is_total(rule, 8, 4)
            example_match(rule, 8, 4)
            least_lead(rule)
            self.assertEqual(rule, kept)

    def test_a_rule_that_is_changed_afterwards(self):
        rule = [(2, 1)]
        self.assertIs(is_total(rule, 2, 1), True)
        rule[0] = (2, 2)
        self.assertIs(is_total(rule, 2, 1), False)
        self.assertIs(is_total(rule, 3, 1), True)

    def test_each_function_is_defined_in_its_file(self):
        for name in ["is_total", "example_match", "least_lead"]:
            self.assertEqual(getattr(totals, name).__module__, "winbytwo.totals")

    def test_example_of_the_document(self):
        rule = [(2, 1), (2, 1)]
        found = [is_total(rule, 4, 4), is_total(rule, 5, 1), least_lead(rule),
                 least_lead([(3, 1), (2, 1)]), example_match([(2, 2)], 3, 1) in ["ABAA", "BAAA"]]
        self.assertEqual(found, [True, False, 0, -1, True])


if __name__ == "__main__":
    unittest.main()
