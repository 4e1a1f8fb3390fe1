"""Tests of points 2, 3, 5, 6 and 8 and of winbytwo/hidden.py."""

import random
import unittest

from scoring import (ErrorCase, WRONG_RULES, all_points, play_slowly, random_points, random_rule,
                     reduced_slowly, short_rules)
from winbytwo import hidden as module
from winbytwo.errors import InvalidPoints, InvalidRace
from winbytwo.hidden import HiddenRule, find
from winbytwo.rules import course, play

RULES = [[], [(1, 1)], [(2, 1)], [(2, 2)], [(4, 2)], [(2, 1), (2, 2)], [(2, 2), (2, 2)],
         [(4, 2), (6, 2), (2, 1)], [(12, 2), (6, 2), (2, 1), (3, 1)], [(1, 1), (3, 3), (4, 4)]]


class Watched(HiddenRule):
    """A hidden rule that remembers what it was asked."""

    def __init__(self, rule):
        HiddenRule.__init__(self, rule)
        self.lengths = []

    def ask(self, points):
        self.lengths.append(len(points))
        return HiddenRule.ask(self, points)


def reduced_rules(most, below=None):
    """All reduced rules whose numbers n have a product of at most `most`."""
    found = [[]]
    for n in range(2, most + 1):
        for m in range(1, n + 1):
            if n != m or below is None or below[0] != below[1]:
                found += [[(n, m), *rest] for rest in reduced_rules(most // n, (n, m))]
    return found


def written_otherwise(dice, rule):
    """The same rule with races (1, 1), and with races (m, m) parted in two."""
    found = []
    for n, m in rule:
        parts = [k for k in range(2, n) if n == m and n % k == 0]
        if parts:
            k = dice.choice(parts)
            found += [(k, k), (n // k, n // k)]
        else:
            found.append((n, m))
    for _ in range(dice.randrange(3)):
        found.insert(dice.randint(0, len(found)), (1, 1))
    return found


class AskTest(ErrorCase):
    def assert_answered(self, hidden, rule, points):
        number, winner, _ = play_slowly(rule, points)
        wanted = None if number is None else (winner, number)
        found = hidden.ask(points)
        self.assertEqual(found, wanted, (rule, points))
        self.assertIn(type(found), [tuple, type(None)])
        self.assertEqual(course(rule, points), number)
        if number is not None:
            self.assertEqual(play(rule, points[:number])[0], found[0])

    def test_all_short_strings(self):
        for rule in short_rules(4, 3):
            hidden = HiddenRule(rule)
            for points in all_points(6):
                self.assert_answered(hidden, rule, points)

    def test_great_rules_and_long_strings(self):
        dice = random.Random(1)
        for rule in RULES + [random_rule(dice) for _ in range(40)]:
            hidden = HiddenRule(rule)
            for length in [0, 1, 10, 50, 400, 2000]:
                self.assert_answered(hidden, rule, random_points(dice, length))
            self.assert_answered(hidden, rule, "B" * 2000)

    def test_open_ended_and_longer_strings(self):
        hidden = HiddenRule([(2, 1)])
        self.assertIsNone(hidden.ask(""))
        self.assertIsNone(hidden.ask("AB"))
        self.assertEqual(hidden.ask("ABB"), ("B", 3))
        self.assertEqual(hidden.ask("ABBAAAAA"), ("B", 3))
        self.assertEqual(HiddenRule([]).ask("AB"), ("A", 1))
        self.assertIsNone(HiddenRule([]).ask(""))
        self.assertIsNone(HiddenRule([(2, 2)]).ask("AB" * 1000))


class QuestionsTest(ErrorCase):
    def test_answers_are_counted(self):
        hidden = HiddenRule([(2, 1), (3, 1)])
        for number, points in enumerate(["", "A", "AB", "AAAAAA", "A" * 50, "", "B"]):
            self.assertEqual(hidden.questions, number)
            hidden.ask(points)
        self.assertEqual([hidden.questions, hidden.questions], [7, 7])
        self.assertIs(type(hidden.questions), int)

    def test_errors_are_not_counted(self):
        hidden = HiddenRule([(2, 1)])
        for points, index in [("x", 0), ("AAx", 2), ("AAAAB ", 5), ("a", 0), ("ABAB\n", 4)]:
            self.assert_fails(InvalidPoints, index, hidden.ask, points)
        self.assertEqual(hidden.questions, 0)
        hidden.ask("AA")
        self.assert_fails(InvalidPoints, 1, hidden.ask, "AbA")
        self.assertEqual(hidden.questions, 1)

    def test_two_hidden_rules_do_not_share_it(self):
        first, second = HiddenRule([(2, 1)]), HiddenRule([(2, 1)])
        first.ask("A")
        first.ask("B")
        second.ask("A")
        self.assertEqual([first.questions, second.questions], [2, 1])
        self.assertEqual(HiddenRule([(2, 1)]).questions, 0)

    def test_it_is_a_property_without_a_setter(self):
        self.assertIs(type(vars(HiddenRule)["questions"]), property)
        with self.assertRaises(AttributeError):
            HiddenRule([]).questions = 5


class FindTest(unittest.TestCase):
    def assert_found(self, rule, most):
        hidden = Watched(rule)
        found = find(hidden, most)
        self.assertEqual(found, reduced_slowly(rule), (rule, most))
        self.assertEqual(hidden.questions, len(hidden.lengths))
        self.assertLessEqual(hidden.questions, 20000)
        self.assertLessEqual(max(hidden.lengths), 2000)

    def test_all_reduced_rules_of_small_products(self):
        for rule in reduced_rules(24):
            self.assert_found(rule, 24)

    def test_all_short_rules(self):
        for rule in short_rules(12, 4):
            self.assert_found(rule, 12)

    def test_rules_that_are_written_otherwise(self):
        dice = random.Random(2)
        for rule in reduced_rules(16) + [[(24, 24), (4, 2)], [(2, 1), (12, 12), (4, 3)], [(36, 36)],
                                         [(16, 16), (2, 1), (3, 3)], [(3, 3), (2, 1), (16, 16)]]:
            self.assert_found(written_otherwise(dice, rule), 100)

    def test_drawn_rules_of_up_to_100(self):
        dice = random.Random(3)
        for _ in range(500):
            self.assert_found(random_rule(dice, 100), 100)

    def test_races_of_great_products(self):
        for rule in [[(n, m)] for n in (50, 97, 100) for m in (1, 2, n // 2, n - 1, n)]:
            self.assert_found(rule, 100)
        for rule in [[(10, 1), (10, 1)], [(10, 10), (10, 9)], [(10, 9), (10, 10)], [(2, 1), (50, 50)],
                     [(50, 50), (2, 1)], [(2, 2), (50, 49)], [(49, 1), (2, 2)], [(2, 1)] * 6,
                     [(2, 2), (2, 1), (5, 5), (5, 1)], [(5, 1), (5, 5), (2, 1), (2, 2)]]:
            self.assert_found(rule, 100)

    def test_the_smallest_number_that_is_allowed(self):
        dice = random.Random(4)
        for rule in dice.sample(reduced_rules(40), 200):
            product = 1
            for n, _ in rule:
                product *= n
            self.assert_found(rule, product)

    def test_the_empty_rule(self):
        for rule in [[], [(1, 1)], [(1, 1), (1, 1)]]:
            for most in [1, 2, 100]:
                self.assert_found(rule, most)

    def test_after_other_questions(self):
        hidden = HiddenRule([(3, 2), (2, 1)])
        hidden.ask("AAAA")
        self.assertEqual(find(hidden, 10), [(3, 2), (2, 1)])
        self.assertEqual(find(hidden, 10), [(3, 2), (2, 1)])

    def test_each_list_is_new(self):
        hidden = HiddenRule([(3, 2), (2, 1)])
        find(hidden, 6).append((7, 7))
        self.assertEqual(find(hidden, 6), [(3, 2), (2, 1)])


class CallsTest(ErrorCase):
    def test_rule_check(self):
        for rule, index in WRONG_RULES:
            self.assert_fails(InvalidRace, index, HiddenRule, rule)

    def test_arguments_by_name(self):
        hidden = HiddenRule(rule=[(2, 1)])
        self.assertEqual(hidden.ask(points="AAB"), ("A", 2))
        self.assertEqual(find(most=2, hidden=hidden), [(2, 1)])

    def test_the_rule_is_neither_modified_nor_kept(self):
        rule = [(1, 1), (2, 2), (2, 2)]
        hidden = HiddenRule(rule)
        hidden.ask("AB")
        find(hidden, 4)
        self.assertEqual(rule, [(1, 1), (2, 2), (2, 2)])
        rule[1] = (3, 1)
        rule.pop()
        self.assertEqual(hidden.ask("AAAA"), ("A", 4))
        self.assertEqual(find(hidden, 4), [(4, 4)])

    def test_all_is_defined_in_its_file(self):
        for name in ["HiddenRule", "find"]:
            self.assertEqual(getattr(module, name).__module__, "winbytwo.hidden")
        self.assertLessEqual({"ask", "questions"}, set(vars(HiddenRule)))

    def test_example_of_the_document(self):
        self.assertEqual(find(HiddenRule([(2, 2), (3, 3), (2, 1)]), 30), [(6, 6), (2, 1)])


if __name__ == "__main__":
    unittest.main()
