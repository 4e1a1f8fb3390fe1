"""Tests of what the document promises over the whole program."""

import ast
import doctest
import pathlib
import random
import unittest

from scoring import exchanged, random_open, random_rule
from winbytwo.chances import chance, expected_points
from winbytwo.counting import (count_matches, longest_match, match_number, nth_match,
                               shortest_match)
from winbytwo.futures import count_endings, deciding_sides, equal_chances, fewest_points
from winbytwo.hidden import HiddenRule, find
from winbytwo.lines import are_lines, count_courses, lines_of, points_of_lines
from winbytwo.live import LiveMatch, MatchBook
from winbytwo.readings import read_rule, read_scores
from winbytwo.reduced import count_futures, reduced, same_future, same_rules
from winbytwo.rules import course, play, progress
from winbytwo.texts import show_rule, show_scores
from winbytwo.totals import example_match, is_total, least_lead

ROOT = pathlib.Path(__file__).resolve().parent.parent
RULES = [[(1, 1), (2, 2), (2, 2), (2, 1)], [(2, 1), (1, 1)], [(3, 3), (2, 2), (1, 1), (3, 2)],
         [(1, 1)], [(2, 2), (3, 3)], [(2, 1), (2, 2), (2, 2)], [(4, 2), (1, 1), (2, 1)],
         [(2, 2), (3, 2), (2, 2), (2, 2)]]


def drawn_match(dice, rule, most):
    """A match of at most so many points, with its length, winner and number."""
    lengths = [length for length in range(most + 1) if count_matches(rule, length)]
    length, winner = dice.choice(lengths), dice.choice("AB")
    number = dice.randrange(count_matches(rule, length))
    return nth_match(rule, length, winner, number), (length, winner, number)


class ReducedRuleTest(unittest.TestCase):
    def setUp(self):
        self.dice = random.Random(1)
        self.rules = RULES + [random_rule(self.dice, 60) for _ in range(30)]

    def test_matches_and_counts(self):
        for rule in self.rules:
            short = reduced(rule)
            self.assertIs(same_rules(rule, short), True)
            for call in [shortest_match, longest_match, least_lead, count_futures]:
                self.assertEqual(call(rule), call(short))
            for length in [0, 1, 5, 12, 40, 81]:
                self.assertEqual(count_matches(rule, length), count_matches(short, length))
            points, (length, winner, number) = drawn_match(self.dice, rule, 70)
            self.assertEqual(nth_match(short, length, winner, number), points)
            self.assertEqual(match_number(short, points), number)
            self.assertEqual([course(rule, points + "AB"), play(short, points)[0]], [length, winner])

    def test_totals(self):
        for rule in self.rules:
            short = reduced(rule)
            for _ in range(15):
                won, lost = self.dice.randrange(70), self.dice.randrange(70)
                self.assertIs(is_total(rule, won, lost), is_total(short, won, lost))
                points = example_match(short, won, lost)
                self.assertEqual(points is not None, is_total(rule, won, lost))
                if points is not None:
                    self.assertEqual(play(rule, points)[0], "A")

    def test_futures_and_chances(self):
        for rule in self.rules:
            short = reduced(rule)
            for length in [0, 3, 12, 60]:
                points, other = [random_open(self.dice, rule, length) for _ in range(2)]
                for call, more in [(fewest_points, "A"), (fewest_points, "B"), (same_future, other),
                                   (same_future, exchanged(points))]:
                    self.assertEqual(call(rule, points, more), call(short, points, more))
                self.assertEqual(deciding_sides(rule, points), deciding_sides(short, points))
                self.assertIs(equal_chances(rule, points), equal_chances(short, points))
                for more in [1, 10, 60]:
                    self.assertEqual(count_endings(rule, points, more, "B"),
                                     count_endings(short, points, more, "B"))
                self.assertEqual(chance(rule, points, 4, 3), chance(short, points, 4, 3))
            self.assertEqual(expected_points(rule, 4, 3), expected_points(short, 4, 3))

    def test_hidden_and_live(self):
        for rule in self.rules:
            short = reduced(rule)
            self.assertEqual(find(HiddenRule(rule), 100), short)
            points = random_open(self.dice, rule, 40)
            self.assertEqual(HiddenRule(rule).ask(points + "A" * 200),
                             HiddenRule(short).ask(points + "A" * 200))
            self.assertEqual(LiveMatch.replay(rule, points), LiveMatch.replay(short, points))
            self.assertEqual(read_rule(show_rule(short)), short)


class MatchesTest(unittest.TestCase):
    def test_numbered_matches_all_the_way(self):
        dice = random.Random(2)
        for rule in RULES + [[(4, 2), (3, 2)], [(3, 1), (2, 1), (2, 1)]]:
            book, kept = MatchBook(rule), []
            for _ in range(8):
                points, (length, winner, number) = drawn_match(dice, rule, 60)
                live = LiveMatch.replay(rule, points)
                self.assertEqual([live.winner, live.scores], list(play(rule, points)))
                self.assertEqual(list(progress(rule, points))[-1], live.scores)
                self.assertEqual(match_number(rule, live.points), number)
                for level in range(len(rule)):
                    lines = read_scores(show_scores(lines_of(rule, points, level)))
                    self.assertIs(are_lines(rule, level, lines), True)
                    self.assertGreaterEqual(count_courses(rule, level, lines), 1)
                    least, greatest = points_of_lines(rule, level, lines)
                    self.assertTrue(least <= length and (greatest is None or length <= greatest))
                book.add(live.points)
                kept.append((points, winner, number))
            winners = [winner for _, winner, _ in kept]
            self.assertEqual(book.wins, (winners.count("A"), winners.count("B")))
            for points, winner, number in kept:
                found = book.remove(0)
                self.assertEqual(found, points)
                self.assertEqual(nth_match(rule, len(found), winner, number), found)

    def test_upsets_have_possible_totals(self):
        rule = [(3, 1), (2, 1), (2, 1)]
        book = MatchBook(rule)
        leads = []
        for won in range(12, 30):
            for lost in range(0, 40):
                points = example_match(rule, won, lost)
                if points is not None:
                    book.add(points)
                    leads.append(won - lost)
        found = [2 * points.count("A") - len(points) for points in book.upsets()]
        self.assertEqual(found, [lead for lead in leads if lead < 0])
        self.assertEqual(min(found), least_lead(rule))

    def test_the_last_point(self):
        dice = random.Random(3)
        for rule in RULES:
            points, (_, winner, _) = drawn_match(dice, rule, 60)
            self.assertIn(winner, deciding_sides(rule, points[:-1]))
            self.assertEqual(fewest_points(rule, points[:-1], winner), 1)
            self.assertEqual(count_endings(rule, points[:-1], 1, winner), 1)


class FilesTest(unittest.TestCase):
    def test_examples_of_the_readme(self):
        # Without the fences, which would count as what an example prints.
        text = (ROOT / "README.md").read_text().replace("```", "")
        made = doctest.DocTestParser().get_doctest(text, {}, "README.md", "README.md", 0)
        found = doctest.DocTestRunner().run(made)
        self.assertEqual(found.failed, 0)
        self.assertGreater(found.attempted, 30)

    def test_the_package_imports_nothing_but_itself_and_math(self):
        for path in sorted((ROOT / "winbytwo").iterdir()):
            if path.name == "__pycache__":
                continue
            self.assertEqual(path.suffix, ".py")
            for node in ast.walk(ast.parse(path.read_text())):
                self.assertNotIsInstance(node, ast.Import)
                if isinstance(node, ast.ImportFrom):
                    self.assertTrue(node.module == "math" or node.module.startswith("winbytwo."))


if __name__ == "__main__":
    unittest.main()
