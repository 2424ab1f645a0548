"""Wall papers: a change that a group cannot notice, or how its rows make a wall fall."""

from askrights.elimination import traced
from askrights.leasteffects import least_effect, rest_of
from askrights.matrices import cells_of, line_of, mixed, row_of
from askrights.rowsums import scale_row
from askrights.spanlines import fractions_for
from askrights.walls import hides


def wall_paper(rows, question, m):
    """Return a wall paper for the rows, the question and m."""
    cells = cells_of((*rows, question))
    form = traced(rows, cells)
    line = line_of(question, cells)
    modulus, change = least_effect(form, line)
    if hides(modulus, m):
        return ("stands", row_of(change, cells))
    rest = rest_of(form, line, modulus)
    spanned = mixed(1, line, -modulus, rest)
    # The modulus is a multiple of m now, so the rest can be stated with m in place of the modulus.
    factor = 0 if modulus == 0 else modulus // m
    return ("falls", fractions_for(form, spanned), scale_row(row_of(rest, cells), factor))
