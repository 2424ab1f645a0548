"""Value papers: which values of a question remain possible if rows have given values."""

from askrights.arithmetic import lowest
from askrights.elimination import traced
from askrights.fractionsums import number_sum
from askrights.leasteffects import least_effect, rest_of
from askrights.matrices import cells_of, dot, line_of, mixed, row_of
from askrights.spanlines import basis_lines, fractions_for


def tie_against(form, values):
    """Return fractions that make the rows vanish, but not the values, or None."""
    for tie in form.ties:
        number = dot(tie, values)
        if number != 0:
            # The values add up to one half, which is no integer.
            return tuple([lowest(factor, 2 * number) for factor in tie])
    return None


def basis_against(form, values):
    """Return fractions that give a row of the basis a value that is not an integer, or None."""
    for line in basis_lines(form):
        fractions = fractions_for(form, line)
        total, denominator = number_sum(fractions, values)
        if total % denominator != 0:
            return fractions
    return None


def fractions_against(form, values):
    """Return the fractions of a "none" paper, or None if some data has the values."""
    # Values that keep to all ties and are integers on the basis are those of some data: the basis can be
    # extended to one of all rows over the cells, with any integers as the values of the other rows.
    fractions = tie_against(form, values)
    return basis_against(form, values) if fractions is None else fractions


def value_paper(rows, values, question):
    """Return a value paper of the rows, the values and the question."""
    cells = cells_of((*rows, question))
    form = traced(rows, cells)
    against = fractions_against(form, values)
    if against is not None:
        return ("none", against)
    line = line_of(question, cells)
    modulus, change = least_effect(form, line)
    rest = rest_of(form, line, modulus)
    spanned = mixed(1, line, -modulus, rest)
    return ("value", fractions_for(form, spanned), row_of(rest, cells), row_of(change, cells))
