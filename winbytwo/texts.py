"""Texts: rules and lists of scores, written out."""


def show_race(race):
    """Return the text of a race."""
    n, m = race
    if m > 1:
        return f"{n}+{m}"
    return f"{n}"


def show_rule(rule):
    """Return the text of a valid rule."""
    if not rule:
        return "point"
    return " > ".join([show_race(race) for race in rule])


def show_scores(scores):
    """Return the text of a list of scores."""
    if not scores:
        return "none"
    return " ".join([f"{a}-{b}" for a, b in scores])
