"""The modulus of a question, and its possible values."""

from askrights.elimination import reduced
from askrights.leasteffects import least_effect
from askrights.matrices import cells_of, line_of
from askrights.valuechecker import lets_value
from askrights.valuepapers import value_paper


def modulus_of(rows, question):
    """Return the modulus of the question, given the rows."""
    cells = cells_of((*rows, question))
    modulus, change = least_effect(reduced(rows, cells), line_of(question, cells))
    return modulus


def possible_values(rows, values, question):
    """Return (v, g): the possible values are v + g * k for all integers k. Return None if no data has the values."""
    return lets_value(rows, values, question, value_paper(rows, values, question))
