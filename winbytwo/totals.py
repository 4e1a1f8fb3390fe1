"""Totals: how many points the winner and the loser of a match can have.

Only the numbers of races of a level that A and B win in a whole match decide
how many units of this level both can have in it, not their order. As A wins the
match, A wins at least one race of each level.
"""

from winbytwo.checks import check_number
from winbytwo.reduced import reduced
from winbytwo.rules import check_rule


def lengthening(race, races, units):
    """Return by how many units of each side one race goes on beyond a lead of
    m at n units, and who wins this race, if A and B win `races` of a level
    with `units` in all; None if they cannot. All other races need not go on."""
    n, m = race
    won, lost = races
    # What the losers may have, and what they have.
    spare = n - m
    own, other = units[0] - won * n, units[1] - lost * n
    longer = max(0, own - lost * spare, other - won * spare)
    if min(own, other) < longer:
        return None
    if longer == 0:
        return 0, "A"
    # The loser of the race that goes on has n - m units at least.
    if m > 1 and other - longer >= spare:
        return longer, "A"
    if m > 1 and own - longer >= spare:
        return longer, "B"
    return None


def mark(rows, first, last, low, high):
    """Set the bits from `low` to `high` in the rows from `first` to `last`."""
    bits = (1 << (high + 1)) - (1 << low)
    for at in range(first, min(last + 1, len(rows))):
        rows[at] |= bits


def pairs_of(rows):
    """Return the pairs (row, bit) of the bits that are set, as a list."""
    return [(at, bit) for at, row in enumerate(rows) for bit in range(row.bit_length()) if row >> bit & 1]


def units_reached(race, rows, most):
    """Return rows of all pairs of units, of at most `most`, that the pairs of
    races in `rows` can have. `lengthening` tells the same for a single one."""
    n, m = race
    spare = n - m
    plain = [0] * (most[0] + 1)
    longer = list(plain)
    for won, lost in pairs_of(rows):
        first, last = won * n, won * n + lost * spare
        low, high = lost * n, lost * n + won * spare
        mark(plain, first, last, low, high)
        if m > 1:
            mark(longer, first, last, low + spare, high)
            mark(longer, first + spare, last, low, high)
    for at in range(1, len(longer)):
        longer[at] |= longer[at - 1] << 1
    bits = (1 << (most[1] + 1)) - 1
    return [(one | two) & bits for one, two in zip(plain, longer)]


def races_reached(rule, won, lost):
    """Return for each level the rows of all pairs of races that A and B can
    win in a match that A wins with at most so many points of both."""
    shortest = 1
    for n, _ in rule:
        shortest = shortest * n
    rows = [0, 1]
    found = []
    for race in reversed(rule):
        found.append(rows)
        shortest = shortest // race[0]
        # The points themselves are checked one by one: there are many more.
        if shortest > 1:
            rows = units_reached(race, rows, (won // shortest, lost // shortest))
    return list(reversed(found))


def source(race, rows, units):
    """Return a pair of races that can have these units, None if there is none."""
    for races in pairs_of(rows):
        if lengthening(race, races, units) is not None:
            return races
    return None


def totals_upwards(rule, won, lost):
    """Return a list of pairs: the points, then for each level the races that A
    and B win in a match with these points; None if there is no such match."""
    found = [(won, lost)]
    for race, rows in zip(rule, races_reached(rule, won, lost)):
        races = source(race, rows, found[-1])
        if races is None:
            return None
        found.append(races)
    if found[-1] != (1, 0):
        return None
    return found


def shared(total, number, most):
    """Return a list of so many numbers, each at most `most`, with this sum."""
    found = []
    for _ in range(number):
        part = min(total, most)
        found.append(part)
        total -= part
    return found


def losers_units(race, races, units):
    """Return two lists: the losers' units in the races that A wins, and in
    those that B wins, so that there are so many units in all."""
    n, m = race
    longer, winner = lengthening(race, races, units)
    first = shared(units[1] - races[1] * n - longer, races[0], n - m)
    second = shared(units[0] - races[0] * n - longer, races[1], n - m)
    if winner == "A":
        first[0] += longer
    else:
        second[0] += longer
    return first, second


def order(race, lost, winner, loser):
    """Return an order of the units of a race in which the loser has `lost`."""
    n, m = race
    early = min(lost, n - m)
    return loser * early + winner * (n - 1) + (loser + winner) * (lost - early) + winner


def in_units(race, sides, units):
    """Return the units of races that these sides win, with so many in all."""
    first, second = losers_units(race, (sides.count("A"), sides.count("B")), units)
    found = []
    for side in sides:
        if side == "A":
            found.append(order(race, first.pop(), "A", "B"))
        else:
            found.append(order(race, second.pop(), "B", "A"))
    return "".join(found)


def checked_rule(rule, won, lost):
    """Check what is_total and example_match are passed; return the reduced rule."""
    short = reduced(rule)
    check_number(won)
    check_number(lost)
    return short


def is_total(rule, won, lost):
    """Tell whether A can win a match with so many points of A and of B."""
    short = checked_rule(rule, won, lost)
    return totals_upwards(short, won, lost) is not None


def example_match(rule, won, lost):
    """Return a match that A wins with so many points of A and of B, or None."""
    short = checked_rule(rule, won, lost)
    totals = totals_upwards(short, won, lost)
    if totals is None:
        return None
    points = "A"
    for level in reversed(range(len(short))):
        points = in_units(short[level], points, totals[level])
    return points


def least_lead(rule):
    """Return the least lead of the winner in points, None if there is none."""
    check_rule(rule)
    # The leads in points with which a side can win a unit.
    least = greatest = 1
    for n, m in rule:
        # A race that goes on adds a unit for each side again and again: one
        # with the least lead for the winner, one with the greatest one against.
        if m > 1 and least < greatest:
            return None
        lost = n - m
        least, greatest = n * least - lost * greatest, n * greatest - min(0, lost * least)
    return least
