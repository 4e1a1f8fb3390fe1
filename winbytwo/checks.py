"""Checks of single values that several functions are passed."""

from winbytwo.errors import InvalidNumber, InvalidSide


def check_number(number):
    """Raise InvalidNumber(number) if a number is negative."""
    if number < 0:
        raise InvalidNumber(number)


def check_side(side):
    """Raise InvalidSide(side) if a side is neither A nor B."""
    if side not in ("A", "B"):
        raise InvalidSide(side)
