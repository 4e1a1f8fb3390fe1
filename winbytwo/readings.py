"""Readings: rules and lists of scores, read from their texts."""

from winbytwo.errors import Unreadable
from winbytwo.races import is_race

MOST_DIGITS = 40


def read_number(word):
    """Return the number that a word is, None if it is none."""
    if not (word.isascii() and word.isdigit()) or len(word) > MOST_DIGITS:
        return None
    if word[0] == "0" and word != "0":
        return None
    return int(word)


def read_race(word):
    """Return the race that a word is, None if it is none."""
    left, sign, right = word.partition("+")
    if not sign:
        right = "1"
    elif right == "1":
        # A lead of 1 is never written.
        return None
    race = (read_number(left), read_number(right))
    if None in race or not is_race(race):
        return None
    return race


def read_score(word):
    """Return the score that a word is, None if it is none."""
    left, _, right = word.partition("-")
    score = (read_number(left), read_number(right))
    if None in score:
        return None
    return score


def read_rule(text):
    """Return the rule of a text."""
    if text == "point":
        return []
    found = [read_race(word) for word in text.split(" > ")]
    if None in found:
        raise Unreadable(text)
    return found


def read_scores(text):
    """Return the list of scores of a text."""
    if text == "none":
        return []
    found = [read_score(word) for word in text.split(" ")]
    if None in found:
        raise Unreadable(text)
    return found
