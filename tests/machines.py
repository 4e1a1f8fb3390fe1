"""Rules as machines of open states, to compare the program with."""

from scoring import next_score


def least_score(race, score):
    """The least score that has the same future by point 9."""
    n, m = race
    a, b = score
    while a > n - m and b > n - m:
        a, b = a - 1, b - 1
    return (a, b)


def next_scores(rule, scores, side):
    """The scores after one more point, None if the match is over."""
    found = list(scores)
    for level, race in enumerate(rule):
        found[level], won = next_score(race, scores[level], side)
        if not won:
            return tuple(found)
        found[level] = (0, 0)
    return None


def next_state(rule, state, side):
    """The state after one more point, or the winner if the match is over."""
    scores = next_scores(rule, state, side)
    if scores is None:
        return side
    return tuple(least_score(race, score) for race, score in zip(rule, scores))


def start_state(rule):
    return tuple((0, 0) for _ in rule)


def state_after(rule, points):
    """The state after points that leave the match open."""
    state = start_state(rule)
    for side in points:
        state = next_state(rule, state, side)
    return state


def machine(rule):
    """A dict of all open states: what A and B lead to from there."""
    found, waiting = {}, [start_state(rule)]
    while waiting:
        state = waiting.pop()
        if state not in found:
            found[state] = [next_state(rule, state, side) for side in "AB"]
            waiting.extend(other for other in found[state] if other not in ("A", "B"))
    return found


def future_classes(rules):
    """For each rule a dict of its open states with a number: states of all
    rules have the same number if and only if they have the same future."""
    machines = [machine(rule) for rule in rules]
    classes = [dict.fromkeys(table, 0) for table in machines]
    many = 0
    while True:
        numbers = {}
        refined = []
        for table, known in zip(machines, classes):
            signs = {state: (known[state], *[known.get(other, other) for other in ahead])
                     for state, ahead in table.items()}
            refined.append({state: numbers.setdefault(sign, len(numbers))
                            for state, sign in signs.items()})
        if len(numbers) == many:
            return classes
        classes, many = refined, len(numbers)
