"""Tests of points 2 to 5 and of winbytwo/texts.py and winbytwo/readings.py."""

import random
import re
import unittest

from scoring import ErrorCase, random_rule, short_races, short_rules
from winbytwo import readings, texts
from winbytwo.errors import Unreadable
from winbytwo.readings import read_rule, read_scores
from winbytwo.texts import show_rule, show_scores

NUMBER = "(0|[1-9][0-9]{0,39})"
RACE = re.compile(f"{NUMBER}(?:\\+{NUMBER})?")
SCORE = re.compile(f"{NUMBER}-{NUMBER}")
SIGNS = "0123456789+->< ._,;:/abnopitAeN()[]~!'\"*=x"
MOST = 10 ** 40 - 1


def rule_of(text):
    """The rule of a text, None if there is none."""
    if text == "point":
        return []
    found = []
    for word in text.split(" > "):
        parts = RACE.fullmatch(word)
        if parts is None:
            return None
        n, m = int(parts[1]), int(parts[2] or 1)
        if m > n or n == 0 or (parts[2] is not None and m < 2):
            return None
        found.append((n, m))
    return found


def scores_of(text):
    """The list of scores of a text, None if there is none."""
    if text == "none":
        return []
    parts = [SCORE.fullmatch(word) for word in text.split(" ")]
    if None in parts:
        return None
    return [(int(part[1]), int(part[2])) for part in parts]


def changed_texts(dice, text):
    """Texts with a word or some characters changed, left out or put in."""
    for _ in range(12):
        at, size = dice.randint(0, len(text)), dice.choice([0, 1, 1, 2, 5])
        put = "".join(dice.choice(SIGNS) for _ in range(dice.choice([0, 1, 1, 2, 3])))
        yield text[:at] + put + text[at + size:]
    words = text.split(" ")
    at = dice.randrange(len(words))
    for word in ["", "0", "1", "00", "01", "007", "2+1", "2+0", "2+02", "2+3", "3+2+1", "+2", "2+", "+",
                 ">", "point", "none", "3-1", "03-1", "3-01", "0-0", "-", "-1", "1-", "--1", "1-2-3", "12",
                 "12+12", "1" * 40, "1" * 41, "9" * 40 + "+2", "9" * 41 + "+2", "5-" + "7" * 41, "2 ", "1+1"]:
        yield " ".join(words[:at] + [word] + words[at + 1:])
        yield " ".join(words[:at] + [word] + words[at:])


class TextCase(ErrorCase):
    def assert_read(self, call, wanted, text):
        """Check what a text is read as; nothing if no value has this text."""
        if wanted is None:
            self.assert_fails(Unreadable, text, call, text)
        else:
            self.assertEqual(call(text), wanted, text)


class ShowRuleTest(unittest.TestCase):
    def test_one_race(self):
        for n, m in short_races(12) + [(10 ** 29, 10 ** 29 - 1), (MOST, MOST), (MOST, 1)]:
            self.assertEqual(show_rule([(n, m)]), str(n) if m == 1 else f"{n}+{m}")

    def test_rules_of_all_sizes(self):
        self.assertEqual(show_rule([]), "point")
        self.assertEqual(show_rule([(1, 1)]), "1")
        self.assertEqual(show_rule([(1, 1), (2, 2)]), "1 > 2+2")
        self.assertEqual(show_rule([(12, 2), (6, 2), (2, 1), (3, 1)]), "12+2 > 6+2 > 2 > 3")
        self.assertEqual(show_rule([(2, 1)] * 100), " > ".join(["2"] * 100))


class ShowScoresTest(unittest.TestCase):
    def test_lists_of_all_sizes(self):
        self.assertEqual(show_scores([]), "none")
        self.assertEqual(show_scores([(0, 0)]), "0-0")
        self.assertEqual(show_scores([(0, 12), (10, 0), (7, 5)]), "0-12 10-0 7-5")
        self.assertEqual(show_scores([(MOST, 0)]), str(MOST) + "-0")
        self.assertEqual(show_scores([(2, 1)] * 100), " ".join(["2-1"] * 100))


class ReadRuleTest(TextCase):
    def test_texts_of_rules(self):
        dice = random.Random(1)
        for rule in short_rules(6, 4) + [random_rule(dice) for _ in range(200)]:
            self.assertEqual(read_rule(show_rule(rule)), rule)
        for rule in [[(MOST, MOST)], [(MOST, 1), (1, 1), (10 ** 39, 2)], [(2, 1)] * 1000]:
            self.assertEqual(read_rule(show_rule(rule)), rule)

    def test_texts_that_are_changed(self):
        dice = random.Random(2)
        known = {True: 0, False: 0}
        for _ in range(120):
            for text in changed_texts(dice, show_rule(random_rule(dice))):
                wanted = rule_of(text)
                self.assert_read(read_rule, wanted, text)
                if wanted is not None:
                    self.assertEqual(show_rule(wanted), text)
                known[wanted is None] += 1
        self.assertGreater(min(known.values()), 500)

    def test_no_text_of_a_rule(self):
        for text in ["", " ", "0", "00", "01", "2+1", "2+0", "2+3", "1+1", "2+", "+2", "+", "2++2", "2+2+2",
                     "4+02", "04+2", "-2", "2-1", "2 > ", " > 2", "2 >2", "2> 2", "2  > 2", "2 >  2", "2>2",
                     ">", " > ", "2 > > 2", "2 < 2", "2 2", " 2", "2 ", "Point", "points", "point ", " point",
                     "point > 2", "2 > point", "none", "2.0", "2,0", "1_0", "1 0", "x", "4 + 2", "4+ 2", "2e1",
                     "0x2", "2+2 > 0", "2 > 3+4", "2\n", "2\t", "2 > 1+1", "\u00b2", "\u0663", "4+\u0662"]:
            self.assert_fails(Unreadable, text, read_rule, text)

    def test_forty_digits(self):
        for number in [10 ** 39, MOST]:
            self.assertEqual(read_rule(f"{number}"), [(number, 1)])
            self.assertEqual(read_rule(f"{number}+{number} > 2"), [(number, number), (2, 1)])
        for text in ["1" + "0" * 40, "9" * 41, "9" * 41 + "+2", "9" * 41 + "+" + "9" * 41, "9" * 4000,
                     "0" * 39 + "1", "0" * 40, "0" * 41, "2 > " + "1" * 41]:
            self.assert_fails(Unreadable, text, read_rule, text)

    def test_long_texts(self):
        text = " > ".join(["12+12"] * 500)
        self.assertEqual(read_rule(text), [(12, 12)] * 500)
        self.assert_fails(Unreadable, text + " > ", read_rule, text + " > ")

    def test_each_list_is_new(self):
        for text in ["point", "4+2 > 2"]:
            wanted = read_rule(text)
            read_rule(text).append((7, 7))
            self.assertEqual(read_rule(text), wanted)


class ReadScoresTest(TextCase):
    def test_texts_of_lists(self):
        dice = random.Random(3)
        for size in list(range(20)) + [300]:
            for most in [1, 12, 10 ** 6, MOST]:
                scores = [(dice.randint(0, most), dice.randint(0, most)) for _ in range(size)]
                self.assertEqual(read_scores(show_scores(scores)), scores)

    def test_texts_that_are_changed(self):
        dice = random.Random(4)
        known = {True: 0, False: 0}
        for _ in range(120):
            scores = [(dice.randint(0, 15), dice.randint(0, 15)) for _ in range(dice.randrange(5))]
            for text in changed_texts(dice, show_scores(scores)):
                wanted = scores_of(text)
                self.assert_read(read_scores, wanted, text)
                if wanted is not None:
                    self.assertEqual(show_scores(wanted), text)
                known[wanted is None] += 1
        self.assertGreater(min(known.values()), 300)

    def test_no_text_of_a_list(self):
        for text in ["", " ", "1", "-", "1-", "-1", "1--1", "-1-1", "1-2-3", "01-1", "1-01", "00-0", "0-00",
                     "1-1 ", " 1-1", "1-1  2-2", "1-1,2-2", "1-1 2", "1-1 > 2-2", "1 -1", "1- 1", "1 - 1",
                     "+1-1", "1-+1", "none ", " none", "None", "none 1-1", "1-1 none", "point", "a-b",
                     "1_0-1", "1.0-1", "1:1", "(1, 1)", "1-1\n", "1-1\t2-2"]:
            self.assert_fails(Unreadable, text, read_scores, text)

    def test_scores_of_no_race(self):
        for text, wanted in [("0-0", [(0, 0)]), ("3-3 0-9", [(3, 3), (0, 9)])]:
            self.assertEqual(read_scores(text), wanted)

    def test_forty_digits(self):
        self.assertEqual(read_scores(f"{MOST}-{10 ** 39}"), [(MOST, 10 ** 39)])
        for text in ["9" * 41 + "-0", "0-" + "9" * 41, "1-1 1-1" + "0" * 40]:
            self.assert_fails(Unreadable, text, read_scores, text)

    def test_each_list_is_new(self):
        for text in ["none", "4-2 2-4"]:
            wanted = read_scores(text)
            read_scores(text).append((7, 7))
            self.assertEqual(read_scores(text), wanted)


class CallsTest(ErrorCase):
    def test_arguments_by_name(self):
        self.assertEqual(show_rule(rule=[(4, 2)]), "4+2")
        self.assertEqual(show_scores(scores=[(4, 2)]), "4-2")
        self.assertEqual(read_rule(text="4+2"), [(4, 2)])
        self.assertEqual(read_scores(text="4-2"), [(4, 2)])

    def test_arguments_are_not_modified(self):
        rule, scores = [(1, 1), (2, 2)], [(0, 0), (2, 2)]
        show_rule(rule)
        show_scores(scores)
        self.assertEqual([rule, scores], [[(1, 1), (2, 2)], [(0, 0), (2, 2)]])

    def test_kinds_of_the_results(self):
        self.assertEqual([type(show_rule([])), type(show_scores([]))], [str, str])
        self.assertEqual([type(read_rule("2")), type(read_rule("2")[0])], [list, tuple])
        self.assertEqual([type(read_scores("2-1")), type(read_scores("2-1")[0])], [list, tuple])

    def test_each_function_is_defined_in_its_file(self):
        for name in ["show_rule", "show_scores"]:
            self.assertEqual(getattr(texts, name).__module__, "winbytwo.texts")
        for name in ["read_rule", "read_scores"]:
            self.assertEqual(getattr(readings, name).__module__, "winbytwo.readings")

    def test_examples_of_the_document(self):
        found = [show_rule([(4, 2), (6, 2), (2, 1)]), show_scores([(4, 1), (0, 4)])]
        self.assertEqual(found, ["4+2 > 6+2 > 2", "4-1 0-4"])
        self.assert_fails(Unreadable, "2+3", read_rule, "2+3")


if __name__ == "__main__":
    unittest.main()
