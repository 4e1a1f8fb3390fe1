"""Hidden rules: finding a rule by asking what strings of points do under it."""

from winbytwo.reduced import reduced
from winbytwo.rules import check_letters, walk


class HiddenRule:
    """A rule that only answers questions."""

    def __init__(self, rule):
        self._rule = reduced(rule)
        self._answers = 0

    def ask(self, points):
        """Return the winner and the number of points of the match that begins
        a string, None if it is not over."""
        check_letters(points)
        number, winner, _ = walk(self._rule, points)
        self._answers += 1
        if number is None:
            return None
        return winner, number

    @property
    def questions(self):
        """How many times `ask` has returned."""
        return self._answers


def needed(hidden, units, side, size, left):
    """Return how many more units in a row a side needs to win the match behind
    some units, 0 or less if it is over by then.

    A unit takes `size` points, and `left` units in a row win a match.
    """
    points = "".join([letter * size for letter in units])
    # Nobody ever needs twice as many units as at the start.
    _, number = hidden.ask(points + side * (2 * left * size))
    return (number - len(points)) // size


def lowest_race(hidden, size, left):
    """Return the lowest race that is left of a hidden reduced rule.

    All units of B behind the start make no difference to A in a race (n, m),
    until B has more than n - m of them: then each unit of B asks for one more
    unit of A. When B wins the race, all this is gone. What B wins in the races
    above makes a difference of n units at once.
    """
    rises = [needed(hidden, "B" * units, "A", size, left) - left for units in range(left)]
    late = [units for units, rise in enumerate(rises) if rise > 0]
    if late and rises[late[0]] == 1:
        spare = late[0] - 1
        n = late[0]
        while n < left and rises[n] == n - spare:
            n += 1
        return (n, n - spare)
    # A lead of one unit is enough: the first unit of B counts until A wins.
    n = 1
    while needed(hidden, "B" + "A" * n, "B", size, left) == left - 1:
        n += 1
    return (n, 1)


def find(hidden, most):
    """Return the reduced rule of a hidden rule whose numbers n have a product
    of at most `most`."""
    _, left = hidden.ask("A" * most)
    found = []
    size = 1
    while left > 1:
        race = lowest_race(hidden, size, left)
        found.append(race)
        size = size * race[0]
        left = left // race[0]
    return found
