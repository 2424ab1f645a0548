"""The checker of wall papers. It computes sums only."""

from askrights.errors import InvalidPaper
from askrights.fractionsums import gives_row
from askrights.kinds import are_fractions, is_pair, is_row
from askrights.rightkinds import is_tuple_of
from askrights.rowsums import effect_of, first_noticing
from askrights.walls import hides


def has_wall_shape(thing):
    """Return whether the value has the shape of a wall paper."""
    if is_pair(thing):
        return thing[0] == "stands" and is_row(thing[1])
    return is_tuple_of(3, thing) and thing[0] == "falls" and are_fractions(thing[1]) and is_row(thing[2])


def stands_fault(rows, question, m, change):
    """Return the (word, at) of the first fault of ("stands", change), or None."""
    at = first_noticing(rows, change)
    if at is not None:
        return ("row", at)
    return None if hides(effect_of(change, question), m) else ("effect", -1)


def falls_fault(rows, question, m, fractions, rest):
    """Return the (word, at) of the first fault of ("falls", fractions, rest), or None."""
    if len(fractions) != len(rows):
        return ("many", -1)
    if m == 0 and rest != ():
        return ("rest", -1)
    return None if gives_row((*fractions, (m, 1)), (*rows, rest), question) else ("sum", -1)


def wall_lets(rows, question, m, thing):
    """Return "stands" or "falls" if the value is a wall paper; raise InvalidPaper otherwise."""
    if not has_wall_shape(thing):
        raise InvalidPaper("shape", -1)
    if thing[0] == "stands":
        fault = stands_fault(rows, question, m, thing[1])
    else:
        fault = falls_fault(rows, question, m, thing[1], thing[2])
    if fault is not None:
        raise InvalidPaper(fault[0], fault[1])
    return thing[0]
