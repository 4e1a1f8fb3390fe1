"""Rules as machines of open states, to compare the program with."""

from scoring import next_score, play_slowly


def least_score(race, score):
    """The least score that has the same future by point 9."""
    n, m = race
    a, b = score
    while a > n - m and b > n - m:
        a, b = a - 1, b - 1
    return (a, b)


def next_scores(rule, scores, side):
    """The scores after one more point, None if the match is over."""
    found = list(scores)
    for level, race in enumerate(rule):
        found[level], won = next_score(race, scores[level], side)
        if not won:
            return tuple(found)
        found[level] = (0, 0)
    return None


def next_state(rule, state, side):
    """The state after one more point, or the winner if the match is over."""
    scores = next_scores(rule, state, side)
    if scores is None:
        return side
    return tuple(least_score(race, score) for race, score in zip(rule, scores))


def start_state(rule):
    return tuple((0, 0) for _ in rule)


def state_after(rule, points):
    """The state after points that leave the match open."""
    state = start_state(rule)
    for side in points:
        state = next_state(rule, state, side)
    return state


def machine(rule):
    """A dict of all open states: what A and B lead to from there."""
    found, waiting = {}, [start_state(rule)]
    while waiting:
        state = waiting.pop()
        if state not in found:
            found[state] = [next_state(rule, state, side) for side in "AB"]
            waiting.extend(other for other in found[state] if other not in ("A", "B"))
    return found


def future_classes(rules):
    """For each rule a dict of its open states with a number: states of all
    rules have the same number if and only if they have the same future."""
    machines = [machine(rule) for rule in rules]
    classes = [dict.fromkeys(table, 0) for table in machines]
    many = 0
    while True:
        numbers = {}
        refined = []
        for table, known in zip(machines, classes):
            signs = {state: (known[state], *[known.get(other, other) for other in ahead])
                     for state, ahead in table.items()}
            refined.append({state: numbers.setdefault(sign, len(numbers))
                            for state, sign in signs.items()})
        if len(numbers) == many:
            return classes
        classes, many = refined, len(numbers)


def slow_matches(rule, most):
    """A dict of the matches of up to `most` points, in string order, by length
    and winner."""
    found = {}

    def extend(points, state):
        for side in "AB":
            following = next_state(rule, state, side)
            if following in ("A", "B"):
                found.setdefault((len(points) + 1, following), []).append(points + side)
            elif len(points) + 1 < most:
                extend(points + side, following)

    extend("", start_state(rule))
    return found


def slow_counts(rule, most, points=""):
    """Count with a dict of all lists of scores: the numbers of strings of 0, 1,
    .. further points at whose end A wins, and those at whose end B wins."""
    found = {"A": [0], "B": [0]}
    lists = {}
    number, _, told = play_slowly(rule, points)
    if number is None:
        lists = {tuple(told[-1]): 1}
    for _ in range(most):
        following, ended = {}, {"A": 0, "B": 0}
        for scores, ways in lists.items():
            for side in "AB":
                after = next_scores(rule, scores, side)
                if after is None:
                    ended[side] += ways
                else:
                    following[after] = following.get(after, 0) + ways
        for side in "AB":
            found[side].append(ended[side])
        lists = following
    return found


def points_to_states(rule):
    """A dict of all open states: the shortest points that lead to them."""
    found = {start_state(rule): ""}
    waiting = [start_state(rule)]
    for state in waiting:
        for side in "AB":
            following = next_state(rule, state, side)
            if following not in ("A", "B") and following not in found:
                found[following] = found[state] + side
                waiting.append(following)
    return found
