"""Tests of points 2, 3, 5 to 8 and of winbytwo/live.py."""

import random
import unittest

from scoring import (ErrorCase, WRONG_RULES, exchanged, play_slowly, random_open, random_points,
                     random_rule, reduced_slowly, short_rules)
from winbytwo import live as module
from winbytwo.counting import count_matches, nth_match, shortest_match
from winbytwo.errors import (InvalidNumber, InvalidPoints, InvalidRace, InvalidSide, MatchOver,
                             NothingToUndo)
from winbytwo.live import LiveMatch, MatchBook
from winbytwo.totals import example_match, is_total

RULES = [[], [(1, 1)], [(2, 1)], [(2, 2)], [(4, 2)], [(2, 1), (2, 2)], [(2, 2), (2, 2)],
         [(3, 1), (2, 1)], [(4, 2), (2, 1)], [(2, 1), (1, 1), (2, 1)], [(12, 2), (6, 2), (2, 1), (3, 1)]]
NO_SIDES = ["C", "", "a", "AB", "AA", " A", None, 0, 1, ("A",), True]


def state_of(live):
    return [live.points, live.winner, live.scores, list(live.leads())]


def wanted_state(rule, points):
    """What a match must tell after these points."""
    _, winner, told = play_slowly(rule, points)
    leads = [points[:size].count("A") - points[:size].count("B") for size in range(len(points) + 1)]
    return [points, winner, told[-1], leads]


class Elsewhere:
    """A thing of another kind that has the same parts."""

    def __init__(self, live):
        self.points, self.winner, self.scores = live.points, live.winner, live.scores
        vars(self).update(vars(live))


class LiveMatchTest(ErrorCase):
    def assert_call(self, live, rule, points, sides):
        """Let sides score behind some points; return the points then."""
        number, _, _ = play_slowly(rule, points + "".join(sides))
        if number is not None and number < len(points) + len(sides):
            self.assert_fails(MatchOver, number, live.point, *sides)
        else:
            self.assertIsNone(live.point(*sides))
            points += "".join(sides)
        return points

    def test_against_a_plain_list_call_by_call(self):
        dice = random.Random(1)
        for rule in RULES + short_rules(6, 3)[::4] + [random_rule(dice) for _ in range(20)]:
            live, points = LiveMatch(rule), ""
            for _ in range(100):
                move = dice.randrange(6)
                if move == 0 and points:
                    self.assertIsNone(live.undo())
                    points = points[:-1]
                elif move == 0:
                    self.assert_fails(NothingToUndo, 0, live.undo)
                elif move == 1:
                    self.assertIsNone(live.point())
                elif move == 2:
                    sides = [dice.choice("AB"), dice.choice(NO_SIDES), "C", "A"]
                    self.assert_fails(InvalidSide, 1, live.point, *sides)
                else:
                    points = self.assert_call(live, rule, points, random_points(dice, move * 2 - 5))
                self.assertEqual([live.points, live.winner], wanted_state(rule, points)[:2])
            self.assertEqual(state_of(live), wanted_state(rule, points))

    def test_a_new_match(self):
        for rule in RULES:
            self.assertEqual(state_of(LiveMatch(rule)), ["", None, [(0, 0)] * len(rule), [0]])

    def test_no_side_one_and_many(self):
        live = LiveMatch([(2, 1), (2, 1)])
        for sides, wanted in [("", ""), ("A", "A"), ("", "A"), ("BA", "ABA"), ("B", "ABAB")]:
            self.assertIsNone(live.point(*sides))
            self.assertEqual(state_of(live), wanted_state([(2, 1), (2, 1)], wanted))

    def test_two_thousand_points_by_turns(self):
        rule = [(2, 2), (3, 2)]
        live, points = LiveMatch(rule), ""
        for _ in range(1000):
            live.point("A")
            live.point("B")
            points += "AB"
        self.assertEqual(state_of(live), wanted_state(rule, points))
        self.assertEqual(state_of(LiveMatch.replay(rule, points)), wanted_state(rule, points))
        once = LiveMatch(rule)
        once.point(*points)
        self.assertEqual(once, live)
        for _ in range(1999):
            live.undo()
        self.assertEqual(state_of(live), wanted_state(rule, "A"))

    def test_undo_behind_the_end_of_races_and_of_the_match(self):
        for rule in RULES:
            points = nth_match(rule, shortest_match(rule), "B", 0)
            live = LiveMatch.replay(rule, points)
            self.assertEqual(live.winner, "B")
            while points:
                self.assertEqual(state_of(live), wanted_state(rule, points))
                live.undo()
                points = points[:-1]
            self.assertEqual(state_of(live), wanted_state(rule, ""))
            self.assert_fails(NothingToUndo, 0, live.undo)
            live.point("A")
            self.assertEqual(state_of(live), wanted_state(rule, "A"))

    def test_refused_calls_change_nothing(self):
        live = LiveMatch([(2, 1), (2, 1)])
        live.point(*"AABA")
        before = state_of(live)
        for sides, wanted, value in [("AA", MatchOver, 5), ("BBBA", MatchOver, 7), ("BABAA", MatchOver, 8),
                                     ("AAx", InvalidSide, 2), ("x", InvalidSide, 0),
                                     ("AAAAAb", InvalidSide, 5)]:
            self.assert_fails(wanted, value, live.point, *sides)
            self.assertEqual(state_of(live), before)
        live.point("A")
        before = state_of(live)
        self.assertEqual(live.winner, "A")
        self.assertIsNone(live.point())
        for sides in ["A", "B", "BBBB"]:
            self.assert_fails(MatchOver, 5, live.point, *sides)
            self.assert_fails(InvalidSide, len(sides), live.point, *sides, "C")
            self.assertEqual(state_of(live), before)

    def test_other_values_than_sides(self):
        for rule in [[], [(2, 1)]]:
            live = LiveMatch(rule)
            for value in NO_SIDES:
                self.assert_fails(InvalidSide, 0, live.point, value)
                self.assert_fails(InvalidSide, 0, live.point, value, "A", value)
                self.assert_fails(InvalidSide, 3, live.point, *"ABA", value)
            self.assertEqual(state_of(live), wanted_state(rule, ""))

    def test_a_list_that_is_changed_has_no_effect(self):
        rule = [(2, 1), (2, 2)]
        live = LiveMatch(rule)
        live.point(*"AAB")
        live.scores.append((7, 7))
        live.scores[0] = (8, 8)
        self.assertEqual(live.scores, [(0, 1), (1, 0)])
        live.undo()
        live.scores.clear()
        live.point("A")
        self.assertEqual(state_of(live), wanted_state(rule, "AAA"))

    def test_leads(self):
        live = LiveMatch([(3, 3)])
        self.assertEqual(list(live.leads()), [0])
        live.point(*"ABBBA")
        self.assertEqual(list(live.leads()), [0, 1, 0, -1, -2, -1])
        one, two = live.leads(), live.leads()
        self.assertEqual([next(one), next(one), next(two), next(one)], [0, 1, 0, 0])
        one.close()
        live.undo()
        self.assertEqual(list(live.leads()), [0, 1, 0, -1, -2])


class ReplayTest(ErrorCase):
    def test_strings_of_all_kinds(self):
        dice = random.Random(2)
        for rule in RULES:
            for length in [0, 1, 5, 30, 300]:
                points = random_open(dice, rule, length)
                self.assertEqual(state_of(LiveMatch.replay(rule, points)), wanted_state(rule, points))
            points = nth_match(rule, shortest_match(rule), "A", 0)
            self.assertEqual(state_of(LiveMatch.replay(rule, points)), wanted_state(rule, points))

    def test_the_class_on_which_it_is_called(self):
        class Shown(LiveMatch):
            pass
        found = Shown.replay([(2, 1)], "AB")
        self.assertEqual([type(found), found.points], [Shown, "AB"])
        self.assertIs(type(LiveMatch.replay([(2, 1)], "AB")), LiveMatch)
        self.assertIs(type(found.replay([], "")), Shown)

    def test_an_object_that_goes_on(self):
        live = LiveMatch.replay([(2, 1)], "AB")
        live.undo()
        live.point("A")
        self.assertEqual(state_of(live), wanted_state([(2, 1)], "AA"))

    def test_errors_in_their_order(self):
        for rule, index in WRONG_RULES:
            for points in ["", "x", "AAAAAAA"]:
                self.assert_fails(InvalidRace, index, LiveMatch.replay, rule, points)
        for points, index in [("x", 0), ("AAx", 2), ("AAAAB ", 5), ("a", 0)]:
            for rule in [[], [(2, 1)], [(2, 2), (2, 1)]]:
                self.assert_fails(InvalidPoints, index, LiveMatch.replay, rule, points)
        self.assert_fails(MatchOver, 2, LiveMatch.replay, [(2, 1)], "AAB")
        self.assert_fails(MatchOver, 1, LiveMatch.replay, [], "BB")


class EqualityTest(unittest.TestCase):
    def test_rules_that_are_written_otherwise(self):
        dice = random.Random(3)
        for rule in [rule for rule in RULES if rule] + [random_rule(dice) for _ in range(30)]:
            points = random_open(dice, rule, 30)
            first = LiveMatch.replay(rule, points)
            for other in [rule, reduced_slowly(rule), [(1, 1), *rule], [*rule, (1, 1)]]:
                second = LiveMatch.replay(other, points)
                self.assertIs(first == second, True)
                self.assertIs(first != second, False)
        self.assertEqual(LiveMatch.replay([(2, 2), (3, 3)], "AB"), LiveMatch.replay([(6, 6)], "AB"))
        self.assertEqual(LiveMatch([]), LiveMatch([(1, 1)]))

    def test_other_rules_and_other_points(self):
        live = LiveMatch.replay([(4, 2)], "AAB")
        for other in [LiveMatch.replay([(4, 2)], "AA"), LiveMatch.replay([(4, 2)], "ABA"),
                      LiveMatch.replay([(4, 2)], exchanged("AAB")), LiveMatch.replay([(4, 1)], "AAB"),
                      LiveMatch.replay([(4, 2), (2, 1)], "AAB"), LiveMatch([(4, 2)])]:
            self.assertIs(live == other, False)
            self.assertIs(live != other, True)

    def test_while_points_are_scored(self):
        one, two = LiveMatch([(2, 1)]), LiveMatch([(2, 1)])
        one.point("A", "B")
        self.assertNotEqual(one, two)
        two.point("A")
        self.assertNotEqual(one, two)
        one.undo()
        self.assertEqual(one, two)

    def test_things_of_other_kinds(self):
        live = LiveMatch.replay([(2, 1)], "AB")
        for other in [None, "AB", 0, [], ("AB",), [(2, 1)], MatchBook([(2, 1)]), Elsewhere(live),
                      LiveMatch, object()]:
            self.assertIs(live == other, False)
            self.assertIs(other == live, False)
            self.assertIs(live != other, True)

    def test_an_object_of_a_class_below(self):
        class Shown(LiveMatch):
            pass
        self.assertEqual(Shown.replay([(2, 1)], "A"), LiveMatch.replay([(2, 1)], "A"))
        self.assertNotEqual(Shown.replay([(2, 1)], "A"), LiveMatch.replay([(2, 1)], "B"))


def all_matches(rule, most):
    """All matches of a rule with so many points at the most, A's before B's."""
    return [nth_match(rule, length, side, number) for side in "AB" for length in range(most + 1)
            for number in range(count_matches(rule, length))]


def some_matches(dice, rule):
    """Matches of a rule, also such whose winner has fewer points."""
    lengths = [length for length in range(50) if count_matches(rule, length)]
    found = [nth_match(rule, length, side, dice.randrange(count_matches(rule, length)))
             for length in lengths for side in "AB"]
    totals = [(won, won + more) for won in range(25) for more in (1, 2, 3)]
    upsets = [example_match(rule, won, lost) for won, lost in totals if is_total(rule, won, lost)]
    return found + 2 * upsets + 2 * [exchanged(points) for points in upsets]


def book_state(book):
    return [book.wins, book.totals, list(book.upsets())]


def wanted_book(rule, matches):
    """What a book of these matches must tell."""
    winners = [play_slowly(rule, points)[1] for points in matches]
    totals = [(points.count("A"), points.count("B")) for points in matches]
    upsets = [points for points, winner, (a, b) in zip(matches, winners, totals)
              if (a < b if winner == "A" else b < a)]
    return [(winners.count("A"), winners.count("B")),
            (sum(a for a, _ in totals), sum(b for _, b in totals)), upsets]


class MatchBookTest(ErrorCase):
    def test_against_a_plain_list_call_by_call(self):
        dice = random.Random(4)
        found = 0
        for rule in RULES[:-1]:
            book, matches, some = MatchBook(rule), [], some_matches(dice, rule)
            for _ in range(60):
                move = dice.randrange(5)
                if move == 0 and matches:
                    number = dice.randrange(len(matches))
                    self.assertEqual(book.remove(number), matches.pop(number))
                elif move == 1:
                    number = dice.choice([-1, -2, len(matches), len(matches) + 1, 10 ** 29])
                    self.assert_fails(InvalidNumber, number, book.remove, number)
                elif move == 2:
                    points = dice.choice(some)
                    self.assert_fails(MatchOver, len(points), book.add, points + "A")
                    self.assert_fails(InvalidNumber, None, book.add, points[:-1])
                else:
                    matches.append(dice.choice(some))
                    self.assertIsNone(book.add(matches[-1]))
                self.assertEqual(book_state(book), wanted_book(rule, matches))
            found += len(list(book.upsets()))
        self.assertGreater(found, 5)

    def test_a_new_book(self):
        for rule in RULES:
            book = MatchBook(rule)
            self.assertEqual(book_state(book), [(0, 0), (0, 0), []])
            self.assert_fails(InvalidNumber, 0, book.remove, 0)
            self.assert_fails(InvalidNumber, -1, book.remove, -1)

    def test_numbers_move_up_behind_a_match_that_is_removed(self):
        book = MatchBook([(2, 1)])
        for points in ["AA", "ABB", "BB", "BAA"]:
            book.add(points)
        self.assertEqual([book.remove(1), book.remove(1), book.remove(0)], ["ABB", "BB", "AA"])
        self.assert_fails(InvalidNumber, 1, book.remove, 1)
        self.assertEqual([book.remove(0), book.wins], ["BAA", (0, 0)])

    def test_the_same_match_several_times(self):
        book = MatchBook([(2, 1)])
        for _ in range(3):
            book.add("ABB")
        self.assertEqual(book_state(book), [(0, 3), (3, 6), []])
        self.assertEqual([book.remove(2), book.wins], ["ABB", (0, 2)])

    def test_upsets_in_order(self):
        rule = [(3, 1), (2, 1)]
        first, second = "AABBABBBAABBA", exchanged("AABBABBBAABBA")
        book = MatchBook(rule)
        for points in [second, "AAAAAA", first, "BBBBBB", second]:
            book.add(points)
        self.assertEqual(list(book.upsets()), [second, first, second])
        one = book.upsets()
        self.assertEqual(next(one), second)
        one.close()
        book.remove(0)
        self.assertEqual(list(book.upsets()), [first, second])

    def test_as_many_points_of_both_sides_are_no_upset(self):
        rule = [(3, 1), (2, 1)]
        tied = [points for points in all_matches(rule, 12) if points.count("A") == points.count("B")]
        book = MatchBook(rule)
        for points in tied:
            book.add(points)
        self.assertEqual({play_slowly(rule, points)[1] for points in tied}, {"A", "B"})
        self.assertEqual(book_state(book), wanted_book(rule, tied))
        self.assertEqual(list(book.upsets()), [])

    def test_all_matches_of_short_rules(self):
        for rule in [[], [(2, 1)], [(2, 1), (2, 1)], [(3, 1), (2, 1)]]:
            matches = all_matches(rule, 13)
            book = MatchBook(rule)
            for points in matches:
                book.add(points)
            self.assertEqual(book_state(book), wanted_book(rule, matches))

    def test_refused_matches(self):
        book = MatchBook([(2, 1), (2, 1)])
        book.add("AAAA")
        before = book_state(book)
        for points, wanted, value in [("AAAx", InvalidPoints, 3), ("AAAAAx", InvalidPoints, 5),
                                      ("AAAAA", MatchOver, 4), ("AAA", InvalidNumber, None),
                                      ("", InvalidNumber, None), ("BBAABBAA", MatchOver, 6)]:
            self.assert_fails(wanted, value, book.add, points)
            self.assertEqual(book_state(book), before)

    def test_long_matches(self):
        rule = [(12, 12)]
        points = "AB" * 990 + "B" * 12
        book = MatchBook(rule)
        for _ in range(20):
            book.add(points)
        self.assertEqual(book_state(book), [(0, 20), (20 * 990, 20 * 1002), []])


class CallsTest(ErrorCase):
    def test_rule_check(self):
        for rule, index in WRONG_RULES:
            self.assert_fails(InvalidRace, index, LiveMatch, rule)
            self.assert_fails(InvalidRace, index, MatchBook, rule)

    def test_arguments_by_name(self):
        self.assertEqual(LiveMatch(rule=[(2, 1)]).points, "")
        self.assertEqual(LiveMatch.replay(points="AB", rule=[(2, 1)]).points, "AB")
        book = MatchBook(rule=[(2, 1)])
        book.add(points="ABA")
        self.assertEqual(book.wins, (1, 0))

    def test_the_rule_is_not_modified(self):
        rule = [(1, 1), (2, 2), (2, 2)]
        live, book = LiveMatch.replay(rule, "AB"), MatchBook(rule)
        live.point(*"AAB")
        live.undo()
        book.add("AAAA")
        book.remove(0)
        self.assertEqual(rule, [(1, 1), (2, 2), (2, 2)])

    def test_a_rule_that_is_changed_afterwards(self):
        for change in [lambda rule: rule.append((5, 1)), lambda rule: rule.clear(),
                       lambda rule: rule.insert(0, (3, 3))]:
            rule = [(1, 1), (2, 2)]
            live, again, book = LiveMatch(rule), LiveMatch.replay(rule, "AB"), MatchBook(rule)
            live.point("A", "B")
            change(rule)
            for match in [live, again]:
                match.point("A")
                self.assertEqual([match.winner, match.scores], [None, [(0, 0), (2, 1)]])
                match.point("A")
                self.assertEqual([match.winner, match.scores], ["A", [(0, 0), (3, 1)]])
                self.assertEqual(match, LiveMatch.replay([(2, 2)], "ABAA"))
            book.add("BABB")
            self.assertEqual(book.wins, (0, 1))

    def test_two_objects_share_nothing(self):
        rule = [(2, 1), (2, 1)]
        one, two = LiveMatch(rule), LiveMatch(rule)
        one.point("A")
        self.assertEqual(state_of(two), wanted_state(rule, ""))
        first, second = MatchBook(rule), MatchBook(rule)
        first.add("AAAA")
        self.assertEqual(book_state(second), [(0, 0), (0, 0), []])

    def test_kinds_of_the_results(self):
        live, book = LiveMatch.replay([(2, 1)], "A"), MatchBook([(2, 1)])
        kinds = [type(value) for value in [live.points, live.scores, live.scores[0], book.wins, book.totals]]
        self.assertEqual(kinds, [str, list, tuple, tuple, tuple])

    def test_all_is_defined_in_its_file_and_class(self):
        for made, names in [(LiveMatch, ["points", "winner", "scores", "point", "undo", "replay",
                                         "leads", "__eq__"]),
                            (MatchBook, ["add", "remove", "wins", "totals", "upsets"])]:
            self.assertEqual(made.__module__, "winbytwo.live")
            self.assertIs(getattr(module, made.__name__), made)
            self.assertLessEqual(set(names), set(vars(made)))
        for made, names in [(LiveMatch, ["points", "winner", "scores"]), (MatchBook, ["wins", "totals"])]:
            for name in names:
                self.assertIs(type(vars(made)[name]), property)

    def test_examples_of_the_document(self):
        self.assert_fails(MatchOver, 6, MatchBook([(3, 1), (2, 1)]).add, "AAAAAAA")
        live = LiveMatch.replay([(2, 1), (2, 1)], "AA")
        live.point("B", "A")
        live.undo()
        found = [live.points, live.winner, live.scores, list(live.leads())]
        self.assertEqual(found, ["AAB", None, [(0, 1), (1, 0)], [0, 1, 2, 1]])
        book = MatchBook([(3, 1), (2, 1)])
        book.add("AABBABBBAABBA")
        found = [book.wins, book.totals, list(book.upsets())]
        self.assertEqual(found, [(1, 0), (6, 7), ["AABBABBBAABBA"]])


if __name__ == "__main__":
    unittest.main()
