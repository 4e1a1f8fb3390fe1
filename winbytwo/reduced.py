"""Reduced rules: which rules are the same, and which strings have the same future."""

from winbytwo.races import future_score
from winbytwo.rules import add_point, check_rule, open_scores, start_scores


def only_asks_lead(race):
    """Tell whether a race is won as soon as a side leads by its n units."""
    n, m = race
    return n == m


def reduced(rule):
    """Return the reduced rule of a rule."""
    check_rule(rule)
    found = []
    for race in rule:
        if race == (1, 1):
            continue
        if found and only_asks_lead(race) and only_asks_lead(found[-1]):
            lead = found[-1][0] * race[0]
            found[-1] = (lead, lead)
        else:
            found.append(race)
    return found


def same_rules(first, second):
    """Tell whether two rules are the same for every string of points."""
    return reduced(first) == reduced(second)


def after_point(rule, scores, side):
    """Return the winner after one more point, or None, and the least scores
    with the same future, as a tuple."""
    following, over = add_point(rule, scores, side)
    if over:
        return side, ()
    return None, tuple([future_score(race, score) for race, score in zip(rule, following)])


def leader_of(leaders, member):
    """Return the member that stands for the whole group of a member."""
    while member in leaders:
        above = leaders[member]
        # Shorter ways keep the search fast where groups grow.
        if above in leaders:
            leaders[member] = leaders[above]
        member = above
    return member


def join_groups(leaders, first, second):
    """Make one group of those of two members; tell whether they were two."""
    one = leader_of(leaders, first)
    two = leader_of(leaders, second)
    if one == two:
        return False
    leaders[one] = two
    return True


def parting_points(first, second):
    """Return points that decide the match under one rule only, or for different
    sides; None if the rules are the same."""
    one_rule = reduced(first)
    two_rule = reduced(second)
    waiting = [("", start_scores(one_rule), start_scores(two_rule))]
    # Scores that the same points lead to must have the same future. What
    # follows for a whole group of such scores need be tried only once.
    leaders = {}
    tried = 0
    while tried < len(waiting):
        points, one_scores, two_scores = waiting[tried]
        tried += 1
        for side in "AB":
            one_winner, one_next = after_point(one_rule, one_scores, side)
            two_winner, two_next = after_point(two_rule, two_scores, side)
            if one_winner != two_winner:
                return points + side
            if one_winner is None and join_groups(leaders, (1, one_next), (2, two_next)):
                waiting.append((points + side, one_next, two_next))
    return None


def count_futures(rule):
    """Return the number of different futures of the open strings of a rule."""
    count = 1
    # The lead that the race below asks for, if it asks for nothing else.
    lead = 1
    for n, m in reduced(rule):
        if n == m:
            lead = n
        else:
            count = count * ((n * n - m * m) * (2 * lead - 1) + 2 * lead * m - 1)
            lead = 1
    return count * (2 * lead - 1)


def future(rule, scores):
    """Return a list that open scores of a reduced rule share exactly if they
    have the same future."""
    found = [future_score(race, score) for race, score in zip(rule, scores)]
    for level in range(1, len(rule)):
        n, m = rule[level]
        a, b = scores[level]
        if only_asks_lead(rule[level - 1]) and min(a, b) >= n - m:
            # Here both races only ask for a lead: of all points together.
            below = scores[level - 1]
            found[level - 1] = (a - b) * rule[level - 1][0] + below[0] - below[1]
            found[level] = None
    return found


def same_future(rule, first, second):
    """Tell whether two open strings have the same future."""
    short = reduced(rule)
    one = open_scores(short, first)
    two = open_scores(short, second)
    return future(short, one) == future(short, two)
