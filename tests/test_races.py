"""Tests of points 2, 3 and 4 and of winbytwo/races.py."""

import itertools
import unittest

from scoring import ErrorCase, futures_agree, reached_scores, short_races
from winbytwo import races
from winbytwo.errors import InvalidNumber, InvalidRace, InvalidScore
from winbytwo.races import final_scores, race_winner, same_open_scores

FAR = 10 ** 29
NO_RACES = [(0, 0), (1, 0), (0, 1), (2, 3), (1, 2), (-1, -1), (3, -1), (3, 0),
            (-1, 1), (), (3,), (3, 2, 1)]


class RaceWinnerTest(ErrorCase):
    def test_all_scores_of_short_races(self):
        for race in short_races(6):
            opened, finals = reached_scores(race, 14)
            for score in itertools.product(range(-2, 13), repeat=2):
                if score in opened:
                    self.assertIsNone(race_winner(race, score), (race, score))
                elif score in finals:
                    self.assertEqual(race_winner(race, score), finals[score])
                else:
                    self.assert_fails(InvalidScore, score, race_winner, race, score)

    def test_nobody_passes_n_where_one_unit_is_lead_enough(self):
        self.assertEqual(race_winner((3, 1), (3, 2)), "A")
        self.assertEqual(race_winner((3, 1), (2, 3)), "B")
        for score in [(3, 3), (4, 3), (3, 4), (4, 4)]:
            self.assert_fails(InvalidScore, score, race_winner, (3, 1), score)

    def test_the_shortest_race(self):
        self.assertIsNone(race_winner((1, 1), (0, 0)))
        self.assertEqual(race_winner((1, 1), (1, 0)), "A")
        self.assertEqual(race_winner((1, 1), (0, 1)), "B")
        self.assert_fails(InvalidScore, (1, 1), race_winner, (1, 1), (1, 1))

    def test_far_up_on_the_diagonal(self):
        for race in [(2, 2), (4, 2), (12, 3), (5, 5)]:
            m = race[1]
            for lead in range(m):
                self.assertIsNone(race_winner(race, (FAR + lead, FAR)))
                self.assertIsNone(race_winner(race, (FAR, FAR + lead)))
            self.assertEqual(race_winner(race, (FAR + m, FAR)), "A")
            self.assertEqual(race_winner(race, (FAR, FAR + m)), "B")
            beyond = (FAR + m + 1, FAR)
            self.assert_fails(InvalidScore, beyond, race_winner, race, beyond)
            beyond = (FAR, FAR + m + 1)
            self.assert_fails(InvalidScore, beyond, race_winner, race, beyond)

    def test_large_races(self):
        self.assertIsNone(race_winner((FAR, 1), (FAR - 1, FAR - 1)))
        self.assertEqual(race_winner((FAR, 1), (FAR, FAR - 1)), "A")
        self.assertEqual(race_winner((FAR, FAR), (5, FAR + 5)), "B")
        self.assert_fails(InvalidScore, (FAR, FAR), race_winner, (FAR, 1), (FAR, FAR))

    def test_negative_units(self):
        for race in [(1, 1), (3, 1), (2, 2), (4, 2), (4, 4)]:
            for score in [(-1, 0), (0, -1), (-1, -1), (race[0], -1), (-1, race[0]),
                          (race[0] - 1, -1), (-FAR, -FAR), (1 - FAR, -FAR)]:
                self.assert_fails(InvalidScore, score, race_winner, race, score)

    def test_race_check_comes_first(self):
        for race in NO_RACES:
            self.assert_fails(InvalidRace, None, race_winner, race, (-1, -1))
            self.assert_fails(InvalidRace, None, race_winner, race, (0, 0))


class FinalScoresTest(ErrorCase):
    def test_all_final_scores_of_short_races(self):
        for race in short_races(6):
            _, finals = reached_scores(race, 20)
            for most in range(13):
                wanted = [(a, b) for b in range(most + 1) for a in range(21)
                          if finals.get((a, b)) == "A"]
                self.assertEqual(list(final_scores(race, most)), wanted, (race, most))

    def test_no_unit_of_the_loser(self):
        for race in short_races(8):
            self.assertEqual(list(final_scores(race, 0)), [(race[0], 0)])

    def test_a_thousand_units_of_the_loser(self):
        for race in [(1, 1), (3, 1), (4, 2), (5, 5), (12, 4)]:
            _, finals = reached_scores(race, 1005)
            wanted = sorted((b, a) for (a, b), side in finals.items()
                            if side == "A" and b <= 1000)
            found = list(final_scores(race, 1000))
            self.assertEqual(found, [(a, b) for b, a in wanted])
        self.assertEqual(list(final_scores((FAR, 1), 1000))[-1], (FAR, 1000))

    def test_two_walks_at_once(self):
        first, second = final_scores((4, 2), 4), final_scores((4, 2), 4)
        self.assertEqual([next(first), next(first)], [(4, 0), (4, 1)])
        self.assertEqual(next(second), (4, 0))
        self.assertEqual(next(first), (4, 2))
        self.assertEqual(list(second), [(4, 1), (4, 2), (5, 3), (6, 4)])
        self.assertEqual(list(first), [(5, 3), (6, 4)])

    def test_errors_in_their_order(self):
        def first_of(race, most):
            return next(final_scores(race, most))
        for race in NO_RACES:
            self.assert_fails(InvalidRace, None, first_of, race, -1)
            self.assert_fails(InvalidRace, None, first_of, race, 3)
        for most in (-1, -2, -FAR):
            for race in [(1, 1), (4, 2)]:
                self.assert_fails(InvalidNumber, most, first_of, race, most)


class SameOpenScoresTest(ErrorCase):
    def test_all_open_scores_of_short_races(self):
        for race in short_races(4):
            opened, _ = reached_scores(race, 7)
            for first, second in itertools.product(sorted(opened), repeat=2):
                wanted = futures_agree(race, first, second, 16)
                found = same_open_scores(race, first, second)
                self.assertIs(found, wanted, (race, first, second))

    def test_near_the_diagonal(self):
        self.assertIs(same_open_scores((4, 2), (3, 3), (2, 2)), True)
        self.assertIs(same_open_scores((4, 2), (1, 1), (2, 2)), False)
        self.assertIs(same_open_scores((4, 2), (3, 2), (4, 3)), True)
        self.assertIs(same_open_scores((4, 2), (2, 1), (3, 2)), False)
        self.assertIs(same_open_scores((4, 2), (3, 2), (2, 3)), False)
        self.assertIs(same_open_scores((3, 3), (0, 0), (7, 7)), True)
        self.assertIs(same_open_scores((3, 1), (2, 2), (1, 1)), False)
        self.assertIs(same_open_scores((3, 1), (2, 2), (2, 2)), True)

    def test_far_up_on_the_diagonal(self):
        for race in [(2, 2), (4, 2), (9, 4)]:
            n, m = race
            low = n - m
            for lead in range(m):
                for first in [(FAR + lead, FAR), (FAR + 1 + lead, FAR + 1)]:
                    same = (low + lead, low)
                    turned = (first[1], first[0])
                    self.assertIs(same_open_scores(race, first, same), True)
                    self.assertIs(same_open_scores(race, same, first), True)
                    self.assertIs(same_open_scores(race, first, turned), lead == 0)
            if low:
                self.assertIs(same_open_scores(race, (FAR, FAR), (low - 1, low - 1)), False)
                self.assertIs(same_open_scores(race, (low - 1, low - 1), (FAR, FAR)), False)
            self.assertIs(same_open_scores(race, (FAR + 1, FAR), (FAR, FAR)), False)

    def test_errors_in_their_order(self):
        for race in NO_RACES:
            self.assert_fails(InvalidRace, None, same_open_scores, race, (-1, 0), (0, -1))
        for race, wrong in [((4, 2), (4, 0)), ((4, 2), (5, 3)), ((3, 1), (3, 3)),
                            ((4, 2), (0, -1)), ((4, 2), (FAR, 0)), ((1, 1), (0, 1))]:
            self.assert_fails(InvalidScore, wrong, same_open_scores, race, wrong, (0, 0))
            self.assert_fails(InvalidScore, wrong, same_open_scores, race, (0, 0), wrong)
            self.assert_fails(InvalidScore, wrong, same_open_scores, race, wrong, (-9, 9))
            self.assert_fails(InvalidScore, (-9, 9), same_open_scores, race, (-9, 9), wrong)
            self.assert_fails(InvalidScore, wrong, same_open_scores, race, wrong, wrong)


class CallsTest(unittest.TestCase):
    def test_arguments_by_name(self):
        self.assertEqual(race_winner(score=(4, 1), race=(4, 2)), "A")
        self.assertEqual(list(final_scores(most=1, race=(4, 2))), [(4, 0), (4, 1)])
        self.assertIs(same_open_scores(second=(2, 2), first=(3, 3), race=(4, 2)), True)

    def test_each_function_is_defined_in_its_file(self):
        for name in ["race_winner", "final_scores", "same_open_scores"]:
            self.assertEqual(getattr(races, name).__module__, "winbytwo.races")

    def test_example_of_the_document(self):
        found = [race_winner((4, 2), (4, 1)), race_winner((4, 2), (4, 3)),
                 list(final_scores((4, 2), 4)), same_open_scores((4, 2), (3, 3), (2, 2))]
        wanted = ["A", None, [(4, 0), (4, 1), (4, 2), (5, 3), (6, 4)], True]
        self.assertEqual(found, wanted)


if __name__ == "__main__":
    unittest.main()
