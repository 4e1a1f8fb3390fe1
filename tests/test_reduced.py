"""Tests of points 2, 3, 5 to 9 and of winbytwo/reduced.py."""

import itertools
import random
import unittest

from machines import future_classes, machine, start_state, state_after
from scoring import (ErrorCase, OTHER, WRONG_RULES, open_scores, play_slowly, points_to,
                     random_rule, reduced_slowly, short_races, short_rules)
from winbytwo import reduced as module
from winbytwo.errors import InvalidPoints, InvalidRace, MatchOver
from winbytwo.races import same_open_scores
from winbytwo.reduced import count_futures, parting_points, reduced, same_future, same_rules
from winbytwo.rules import course, play

REDUCED = [[], [(2, 1)], [(2, 2)], [(6, 6)], [(4, 2), (2, 1)], [(2, 2), (2, 1), (2, 2)],
           [(2, 2), (3, 2), (2, 2)], [(2, 1), (2, 1), (2, 1), (2, 1)], [(4, 4), (2, 1), (3, 3)]]
GREAT = [[(12, 2), (6, 2), (2, 1), (3, 1)], [(5, 4), (5, 1), (5, 3), (4, 2)],
         [(12, 1), (12, 6), (3, 2)], [(10, 7), (12, 2), (4, 3)], [(5, 5), (5, 1), (5, 2), (4, 4)],
         [(12, 12), (12, 5), (3, 3)], [(3, 3), (4, 4), (12, 7), (3, 1)], [(2, 2), (12, 1), (12, 11)],
         [(1, 1), (7, 7), (1, 1), (9, 4)], [(12, 12), (12, 12)], [(6, 3), (8, 8), (9, 8)]]


class ReducedTest(unittest.TestCase):
    def test_all_short_rules(self):
        races = short_races(3)
        for size in range(5):
            for rule in itertools.product(races, repeat=size):
                self.assertEqual(reduced(list(rule)), reduced_slowly(rule), rule)

    def test_random_rules(self):
        dice = random.Random(1)
        for _ in range(2000):
            rule = random_rule(dice)
            self.assertEqual(reduced(rule), reduced_slowly(rule), rule)

    def test_races_of_one_unit(self):
        self.assertEqual(reduced([(1, 1)]), [])
        self.assertEqual(reduced([(1, 1), (1, 1), (1, 1)]), [])
        self.assertEqual(reduced([(1, 1), (3, 2), (1, 1)]), [(3, 2)])
        self.assertEqual(reduced([(2, 1), (1, 1), (2, 1)]), [(2, 1), (2, 1)])

    def test_neighbours_that_only_ask_for_a_lead(self):
        self.assertEqual(reduced([(2, 2), (3, 3)]), [(6, 6)])
        self.assertEqual(reduced([(2, 2), (3, 3), (4, 4)]), [(24, 24)])
        self.assertEqual(reduced([(2, 2), (2, 2), (2, 2), (2, 2)]), [(16, 16)])
        self.assertEqual(reduced([(12, 12), (12, 12), (3, 3)]), [(432, 432)])
        self.assertEqual(reduced([(2, 1), (2, 2), (3, 3), (4, 2)]), [(2, 1), (6, 6), (4, 2)])
        self.assertEqual(reduced([(2, 2), (3, 3), (4, 1), (2, 2), (2, 2)]),
                         [(6, 6), (4, 1), (4, 4)])

    def test_a_race_between_them(self):
        self.assertEqual(reduced([(2, 2), (1, 1), (3, 3)]), [(6, 6)])
        self.assertEqual(reduced([(2, 2), (2, 1), (3, 3)]), [(2, 2), (2, 1), (3, 3)])
        self.assertEqual(reduced([(2, 2), (3, 2), (3, 3)]), [(2, 2), (3, 2), (3, 3)])

    def test_rules_that_are_reduced_already(self):
        for rule in REDUCED:
            self.assertEqual(reduced(rule), rule)
            self.assertEqual(reduced(reduced(rule)), rule)

    def test_a_new_list_each_time(self):
        for rule in REDUCED:
            first, second = reduced(rule), reduced(rule)
            self.assertIs(type(first), list)
            self.assertIsNot(first, rule)
            self.assertIsNot(first, second)
            first.append((9, 9))
            self.assertEqual(reduced(rule), second)

    def test_the_reduced_rule_plays_alike(self):
        dice = random.Random(2)
        for _ in range(300):
            rule = random_rule(dice)
            share = dice.choice([0.1, 0.4, 0.5, 0.6, 0.9])
            points = "".join("A" if dice.random() < share else "B" for _ in range(600))
            number = course(rule, points)
            self.assertEqual(course(reduced(rule), points), number)
            points = points[:number]
            self.assertEqual(play(reduced(rule), points)[0], play(rule, points)[0])


class SameRulesTest(unittest.TestCase):
    def test_all_pairs_against_their_futures(self):
        rules = short_rules(6, 3)
        starts = [classes[start_state(rule)] for rule, classes in zip(rules, future_classes(rules))]
        pairs = list(zip(rules, starts))
        for (first, one), (second, two) in itertools.product(pairs, repeat=2):
            self.assertIs(same_rules(first, second), one == two, (first, second))

    def test_all_pairs_against_all_strings(self):
        rules = short_rules(4, 2)
        strings = ["".join(points) for points in itertools.product("AB", repeat=10)]
        plays = [[play_slowly(rule, points)[:2] for points in strings] for rule in rules]
        for (first, one), (second, two) in itertools.product(zip(rules, plays), repeat=2):
            self.assertIs(same_rules(first, second), one == two, (first, second))

    def test_against_the_reduced_rules(self):
        dice = random.Random(3)
        rules = [random_rule(dice, most) for most in [4, 8, 16, 500] for _ in range(60)]
        for first, second in itertools.product(rules, repeat=2):
            wanted = reduced_slowly(first) == reduced_slowly(second)
            self.assertIs(same_rules(first, second), wanted)

    def test_rules_that_are_the_same(self):
        for first, second in [([], [(1, 1)]), ([(2, 2), (6, 6)], [(3, 3), (1, 1), (4, 4)]),
                              ([(2, 2), (3, 3), (2, 1)], [(3, 3), (2, 2), (2, 1)]),
                              ([(12, 12), (12, 12)], [(144, 144)])]:
            self.assertIs(same_rules(first, second), True)
            self.assertIs(same_rules(second, first), True)

    def test_rules_that_are_not(self):
        for first, second in [([], [(2, 1)]), ([(2, 1), (3, 1)], [(3, 1), (2, 1)]),
                              ([(2, 1)], [(2, 2)]), ([(4, 1)], [(2, 1), (2, 1)]),
                              ([(2, 2), (2, 1), (2, 2)], [(4, 4), (2, 1)])]:
            self.assertIs(same_rules(first, second), False)
            self.assertIs(same_rules(second, first), False)


class PartingPointsTest(unittest.TestCase):
    def assert_parted(self, first, second):
        points = parting_points(first, second)
        if reduced_slowly(first) == reduced_slowly(second):
            self.assertIsNone(points, (first, second))
            return
        ends = [play_slowly(rule, points)[:2] for rule in (first, second)]
        for number, _ in ends:
            self.assertIn(number, [None, len(points)], (first, second, points))
        self.assertNotEqual(ends[0], ends[1], (first, second, points))

    def test_all_pairs_of_the_shortest_rules(self):
        for first, second in itertools.product(short_rules(6, 3), repeat=2):
            self.assert_parted(first, second)

    def test_pairs_of_all_rules_up_to_24(self):
        dice = random.Random(4)
        rules = short_rules(24, 4)
        for rule in dice.sample(rules, 1500):
            self.assert_parted(rule, dice.choice(rules))

    def test_all_pairs_of_reduced_rules_up_to_9(self):
        rules = [rule for rule in short_rules(9, 3) if reduced_slowly(rule) == rule]
        for first, second in itertools.combinations(rules, 2):
            self.assert_parted(first, second)

    def test_rules_that_reduce_to_the_same_races_in_another_order(self):
        dice = random.Random(9)
        rules = [rule for rule in short_rules(24, 3) if len(set(rule)) > 1]
        for rule in dice.sample(rules, 300):
            for other in itertools.permutations(rule):
                self.assert_parted(rule, list(other))

    def test_rules_with_one_other_race(self):
        for rule in short_rules(12, 3):
            for level, (n, m) in enumerate(rule):
                for race in [(n + 1, m), (n, m + 1), (n + 1, m + 1), (1, 1)]:
                    if race[0] >= race[1]:
                        self.assert_parted(rule, [*rule[:level], race, *rule[level + 1:]])

    def test_the_same_rules(self):
        for first, second in [([], []), ([], [(1, 1), (1, 1)]), ([(24, 1)], [(24, 1)]),
                              ([(2, 2), (3, 3), (4, 4)], [(4, 4), (6, 6)]),
                              ([(2, 2), (1, 1), (3, 2), (4, 4)], [(2, 2), (3, 2), (2, 2), (2, 2)])]:
            self.assertIsNone(parting_points(first, second))

    def test_the_empty_rule(self):
        self.assertIn(parting_points([], [(2, 1)]), ["A", "B"])
        self.assertIn(parting_points([(2, 2)], []), ["A", "B"])

    def test_larger_rules(self):
        for first, second in [([(12, 1), (4, 1)], [(4, 1), (12, 1)]), ([(48, 2)], [(48, 3)]),
                              ([(2, 2), (3, 2), (8, 8)], [(8, 8), (3, 2), (2, 2)])]:
            self.assert_parted(first, second)
        self.assertIsNone(parting_points([(3, 2), (4, 2), (4, 3)], [(3, 2), (4, 2), (4, 3)]))


class CountFuturesTest(unittest.TestCase):
    def test_all_short_rules(self):
        for rule in short_rules(12, 3):
            wanted = len(set(future_classes([rule])[0].values()))
            self.assertEqual(count_futures(rule), wanted, rule)

    def test_some_rules_up_to_24(self):
        dice = random.Random(5)
        for rule in dice.sample(short_rules(24, 4), 150):
            wanted = len(set(future_classes([rule])[0].values()))
            self.assertEqual(count_futures(rule), wanted, rule)

    def test_great_rules(self):
        for rule, wanted in [([], 1), ([(1, 1)], 1), ([(12, 12)], 23), ([(12, 12), (12, 12)], 287),
                             ([(12, 1)], 144), ([(12, 2)], 143), ([(12, 12), (12, 5)], 119 * 23 + 119),
                             ([(12, 2), (6, 2), (2, 1), (3, 1)], 143 * 35 * 4 * 9),
                             ([(5, 5), (4, 4), (12, 7), (2, 1)], (95 * 39 + 279) * 4),
                             ([(2, 2), (2, 1), (2, 2), (3, 1)], (3 * 3 + 3) * (8 * 3 + 3)),
                             ([(2, 1), (2, 2), (2, 2)], 4 * 7), ([(432, 432)], 863)]:
            self.assertEqual(count_futures(rule), wanted, rule)

    def test_the_reduced_rule_counts(self):
        dice = random.Random(6)
        for _ in range(300):
            rule = random_rule(dice)
            self.assertEqual(count_futures(rule), count_futures(reduced_slowly(rule)))


class SameFutureTest(unittest.TestCase):
    def test_all_pairs_of_short_strings(self):
        for rule in short_rules(6, 3):
            classes = future_classes([rule])[0]
            strings = ["".join(points) for size in range(6)
                       for points in itertools.product("AB", repeat=size)]
            futures = {points: classes[state_after(rule, points)] for points in strings
                       if course(rule, points) is None}
            for first, second in itertools.combinations_with_replacement(futures, 2):
                wanted = futures[first] == futures[second]
                self.assertIs(same_future(rule, first, second), wanted, (rule, first, second))

    def test_strings_to_all_open_states(self):
        dice = random.Random(7)
        rules = [rule for rule in short_rules(24, 4) if (2, 2) in rule or (3, 3) in rule]
        for rule in dice.sample(rules, 60) + [[(2, 2), (3, 2)], [(3, 3), (4, 2)], [(4, 4), (6, 3)]]:
            classes = future_classes([rule])[0]
            states = list(machine(rule))
            for _ in range(100):
                pair = [dice.choice(states) for _ in range(2)]
                first, second = [points_to(rule, state) for state in pair]
                wanted = classes[pair[0]] == classes[pair[1]]
                self.assertIs(same_future(rule, first, second), wanted, (rule, first, second))

    def test_each_race_of_great_rules(self):
        dice = random.Random(8)
        for rule in GREAT[:4]:
            for level, race in enumerate(rule):
                scores = open_scores(race, race[0] + 1)
                others = [dice.choice(open_scores(other, other[0])) for other in rule]
                for _ in range(60):
                    first, second = dice.choice(scores), dice.choice(scores)
                    one, two = [points_to(rule, [*others[:level], score, *others[level + 1:]])
                                for score in (first, second)]
                    wanted = same_open_scores(race, first, second)
                    self.assertIs(same_future(rule, one, two), wanted, (rule, one, two))

    def test_a_race_above_one_that_only_asks_for_a_lead(self):
        # With 5 units of both sides in (7, 2) only the lead in points counts.
        rule = [(3, 3), (7, 2), (2, 1)]
        for first, second, wanted in [([(2, 0), (5, 5)], [(0, 1), (6, 5)], True),
                                      ([(2, 0), (5, 5)], [(0, 1), (9, 8)], True),
                                      ([(1, 0), (5, 5)], [(0, 2), (8, 7)], True),
                                      ([(0, 1), (5, 5)], [(2, 0), (5, 6)], True),
                                      ([(2, 0), (5, 5)], [(0, 2), (6, 5)], False),
                                      ([(2, 0), (5, 4)], [(0, 1), (6, 4)], False),
                                      ([(2, 0), (4, 4)], [(0, 1), (5, 4)], False),
                                      ([(2, 0), (4, 4)], [(3, 1), (4, 4)], True),
                                      ([(2, 0), (4, 4)], [(2, 0), (5, 5)], False)]:
            one, two = [points_to(rule, [*scores, (0, 1)]) for scores in (first, second)]
            self.assertIs(same_future(rule, one, two), wanted, (first, second))
            self.assertIs(same_future([(1, 1), *rule], two, one), wanted)
            above = points_to(rule, [*second, (1, 0)])
            self.assertIs(same_future(rule, one, above), False)

    def test_long_strings(self):
        self.assertIs(same_future([(2, 2)], "AB" * 1000, ""), True)
        self.assertIs(same_future([(12, 12)], "AB" * 999 + "A", "A"), True)
        self.assertIs(same_future([(12, 12)], "AB" * 999 + "A", "B"), False)
        self.assertIs(same_future([(4, 2)], "AB" * 1000, "ABAB"), True)
        self.assertIs(same_future([(4, 2)], "AB" * 1000, "AB"), False)

    def test_the_empty_rule(self):
        self.assertIs(same_future([], "", ""), True)
        self.assertIs(same_future([(1, 1)], "", ""), True)

    def test_exchanged_sides_are_another_future(self):
        for rule in [rule for rule in GREAT if rule]:
            self.assertIs(same_future(rule, "A", "A"), True)
            self.assertIs(same_future(rule, "A", OTHER["A"]), False)


class ErrorsTest(ErrorCase):
    def test_rule_check_of_one_rule(self):
        for rule, index in WRONG_RULES:
            self.assert_fails(InvalidRace, index, reduced, rule)
            self.assert_fails(InvalidRace, index, count_futures, rule)
            for first, second in [("", ""), ("x", "y"), ("A" * 9, "")]:
                self.assert_fails(InvalidRace, index, same_future, rule, first, second)

    def test_rule_check_of_two_rules(self):
        for call in [same_rules, parting_points]:
            for rule, index in WRONG_RULES:
                for other in [[], [(2, 1)], rule]:
                    self.assert_fails(InvalidRace, index, call, rule, other)
                    self.assert_fails(InvalidRace, index, call, other, rule)
            self.assert_fails(InvalidRace, 1, call, [(1, 1), (2, 3)], [(0, 0)])
            self.assert_fails(InvalidRace, 0, call, [(0, 0)], [(1, 1), (2, 3)])

    def test_open_check_of_the_first_string(self):
        for second in ["", "x", "AA", "AAA"]:
            self.assert_fails(InvalidPoints, 1, same_future, [(2, 1)], "AxA", second)
            self.assert_fails(InvalidPoints, 4, same_future, [(2, 1)], "AAAA-", second)
            self.assert_fails(MatchOver, 2, same_future, [(2, 1)], "AA", second)
            self.assert_fails(MatchOver, 3, same_future, [(2, 1)], "ABAAB", second)
            self.assert_fails(MatchOver, 1, same_future, [], "B", second)
            self.assert_fails(MatchOver, 1, same_future, [(1, 1)], "AB", second)

    def test_open_check_of_the_second_string(self):
        for rule, first in [([(2, 1)], "AB"), ([(1, 1), (2, 1), (1, 1)], "")]:
            self.assert_fails(InvalidPoints, 0, same_future, rule, first, "a")
            self.assert_fails(InvalidPoints, 3, same_future, rule, first, "AAA B")
            self.assert_fails(MatchOver, 3, same_future, rule, first, "BAB")
            self.assert_fails(MatchOver, 2, same_future, rule, first, "BBBB")

    def test_over_where_neighbours_are_taken_together(self):
        rule = [(2, 2), (1, 1), (2, 2)]
        self.assertIs(same_future(rule, "AAA", "AABA"), False)
        self.assert_fails(MatchOver, 6, same_future, rule, "ABAAAA", "")
        self.assert_fails(MatchOver, 4, same_future, rule, "", "BBBBA")


class CallsTest(unittest.TestCase):
    def test_arguments_by_name(self):
        self.assertEqual(reduced(rule=[(2, 2), (2, 2)]), [(4, 4)])
        self.assertIs(same_rules(second=[], first=[(1, 1)]), True)
        self.assertIn(parting_points(second=[], first=[(2, 1)]), ["A", "B"])
        self.assertEqual(count_futures(rule=[(4, 2)]), 15)
        self.assertIs(same_future(second="AB", first="", rule=[(2, 2)]), True)

    def test_the_rules_are_not_modified(self):
        for rule in GREAT + [[(1, 1), (2, 2), (2, 2)], [(2, 2), (2, 2), (3, 2)]]:
            kept, other = list(rule), list(rule)
            reduced(rule)
            same_rules(rule, other)
            count_futures(rule)
            same_future(rule, "A", "B")
            self.assertEqual([rule, other], [kept, kept])
        rule, other = [(1, 1), (2, 2), (2, 2)], [(1, 1), (2, 1), (2, 1)]
        parting_points(rule, other)
        self.assertEqual([rule, other], [[(1, 1), (2, 2), (2, 2)], [(1, 1), (2, 1), (2, 1)]])

    def test_a_result_and_the_rule_are_apart(self):
        rule = [(2, 2), (3, 2)]
        found = reduced(rule)
        found[0] = (7, 7)
        self.assertEqual(rule, [(2, 2), (3, 2)])
        found = reduced(rule)
        rule.clear()
        self.assertEqual(found, [(2, 2), (3, 2)])

    def test_each_function_is_defined_in_its_file(self):
        for name in ["reduced", "same_rules", "parting_points", "count_futures", "same_future"]:
            self.assertEqual(getattr(module, name).__module__, "winbytwo.reduced")

    def test_examples_of_the_document(self):
        found = [reduced([(1, 1), (2, 2), (3, 3), (2, 1)]), same_rules([(2, 2), (2, 2)], [(4, 4)]),
                 count_futures([(4, 2), (2, 1)]), same_future([(4, 2)], "AABB", "ABAABB")]
        self.assertEqual(found, [[(6, 6), (2, 1)], True, 60, True])
        found = [count_futures([(2, 2), (3, 2)]),
                 same_future([(2, 2), (3, 2)], "AABBAABBA", "AABBAAB")]
        self.assertEqual(found, [22, True])


if __name__ == "__main__":
    unittest.main()
