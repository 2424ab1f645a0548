"""Kind functions: each accepts any value and returns True or False."""

from askrights.arithmetic import common_divisor

LETTERS = "abcdefghijklmnopqrstuvwxyz"


def is_integer(thing):
    """Return whether the value is an integer; True and False are none."""
    return isinstance(thing, int) and not isinstance(thing, bool)


def is_number(thing):
    """Return whether the value is an integer that is at least 0."""
    return is_integer(thing) and thing >= 0


def is_name(thing):
    """Return whether the value is a string of one to eight lowercase letters."""
    if not isinstance(thing, str) or not 1 <= len(thing) <= 8:
        return False
    return all([letter in LETTERS for letter in thing])


def is_pair(thing):
    """Return whether the value is a tuple of two items."""
    return isinstance(thing, tuple) and len(thing) == 2


def is_cell(thing):
    """Return whether the value is a pair of an account and a day."""
    return is_pair(thing) and is_name(thing[0]) and is_number(thing[1])


def is_weighted_cell(thing):
    """Return whether the value is a pair of a cell and an integer that is not 0."""
    return is_pair(thing) and is_cell(thing[0]) and is_integer(thing[1]) and thing[1] != 0


def is_row(thing):
    """Return whether the value is a row."""
    if not isinstance(thing, tuple) or not all([is_weighted_cell(item) for item in thing]):
        return False
    cells = [cell for cell, weight in thing]
    return all([one < other for one, other in zip(cells, cells[1:])])


def are_rows(thing):
    """Return whether the value is a tuple of rows."""
    return isinstance(thing, tuple) and all([is_row(item) for item in thing])


def is_data(thing):
    """Return whether the value is data."""
    # The definition of data differs from that of a row in its words only.
    return is_row(thing)


def is_fraction(thing):
    """Return whether the value is a fraction in lowest terms."""
    if not is_pair(thing) or not is_integer(thing[0]) or not is_integer(thing[1]):
        return False
    return thing[1] >= 1 and common_divisor(thing[0], thing[1]) == 1


def are_fractions(thing):
    """Return whether the value is a tuple of fractions."""
    return isinstance(thing, tuple) and all([is_fraction(item) for item in thing])
