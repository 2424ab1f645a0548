"""What the reduced form of rows tells: the basis, sums that make up a line, changes that no row notices."""

from askrights.arithmetic import lowest
from askrights.lattices import divisible_sums
from askrights.matrices import combined, dot


def basis_lines(form):
    """Return the lines of the basis of the rows with this reduced form."""
    # A sum of the reduced lines over the divisor is a row exactly if its free places are divisible by it.
    width = len(form.cells)
    free_parts = [[line[column] for column in form.free] for line in form.lines]
    sums = [combined(factors, form.lines, width) for factors in divisible_sums(free_parts, form.divisor)]
    return [[number // form.divisor for number in line] for line in sums]


def missed_column(form, line):
    """Return the first column in which no sum of fractions gives the line, or None if it is in the span."""
    factors = [line[column] for column in form.pivots]
    reached = combined(factors, form.lines, len(form.cells))
    for column in form.free:
        if reached[column] != form.divisor * line[column]:
            return column
    return None


def fractions_for(form, line):
    """Return the fractions of the rows that add up to a line in the span; the form is traced."""
    factors = [line[column] for column in form.pivots]
    return tuple([lowest(number, form.divisor) for number in combined(factors, form.behind, form.many)])


def completed(form, free_part):
    """Return the change with these numbers at the free columns that no row notices."""
    change = [0] * len(form.cells)
    for column, number in zip(form.free, free_part):
        change[column] = number
    for column, line in zip(form.pivots, form.lines):
        change[column] = -dot(change, line) // form.divisor
    return change


def change_missing(form, column):
    """Return a change that no row notices and that is 0 at all free columns except this one."""
    return completed(form, [form.divisor if free == column else 0 for free in form.free])
