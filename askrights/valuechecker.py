"""The checker of value papers. It computes sums only."""

from askrights.errors import InvalidPaper
from askrights.fractionsums import number_sum, row_sum
from askrights.kinds import are_fractions, is_row
from askrights.rowsums import add_rows, effect_of, first_noticing, scale_row


def has_value_shape(thing):
    """Return whether the value has the shape of a value paper."""
    if not isinstance(thing, tuple) or len(thing) < 2 or not are_fractions(thing[1]):
        return False
    if thing[0] == "none":
        return len(thing) == 2
    return thing[0] == "value" and len(thing) == 4 and is_row(thing[2]) and is_row(thing[3])


def checked_sum(fractions, rows):
    """Return the sum of fraction times row; raise InvalidPaper if a weight of it is not an integer."""
    if len(fractions) != len(rows):
        raise InvalidPaper("many", -1)
    total, denominator = row_sum(fractions, rows)
    if any([weight % denominator != 0 for cell, weight in total]):
        raise InvalidPaper("row", -1)
    return tuple([(cell, weight // denominator) for cell, weight in total])


def checked_modulus(rows, question, rest, change):
    """Return the modulus that the change shows; raise InvalidPaper if it shows none."""
    if change == ():
        if rest != ():
            raise InvalidPaper("rest", -1)
        return 0
    at = first_noticing(rows, change)
    if at is not None:
        raise InvalidPaper("notices", at)
    modulus = effect_of(change, question)
    if modulus < 1:
        raise InvalidPaper("effect", -1)
    return modulus


def lets_value(rows, values, question, thing):
    """Return (v, g) for a "value" paper and None for a "none" paper; raise InvalidPaper otherwise."""
    if not has_value_shape(thing):
        raise InvalidPaper("shape", -1)
    word, fractions = thing[:2]
    spanned = checked_sum(fractions, rows)
    total, denominator = number_sum(fractions, values)
    if (word == "value") != (total % denominator == 0):
        raise InvalidPaper("number", -1)
    if word == "none":
        return None
    rest, change = thing[2:]
    modulus = checked_modulus(rows, question, rest, change)
    if question != add_rows(spanned, scale_row(rest, modulus)):
        raise InvalidPaper("question", -1)
    value = total // denominator
    return (value, 0) if modulus == 0 else (value % modulus, modulus)
