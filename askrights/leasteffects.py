"""The least effect that a change has on a question if no row notices the change."""

from askrights.arithmetic import bezout
from askrights.lattices import divisible_sums
from askrights.matrices import combined, dot, mixed
from askrights.spanlines import basis_lines, completed


def unnoticed_changes(form):
    """Return changes, as lines; the changes that no row notices are the sums of integer multiples of them."""
    # Numbers at the free columns can be completed exactly if the numbers at the pivots become integers.
    columns = [[line[column] for line in form.lines] for column in form.free]
    return [completed(form, free_part) for free_part in divisible_sums(columns, form.divisor)]


def least_effect(form, line):
    """Return (modulus, change): the modulus of the line, and an unnoticed change that has it as its effect."""
    modulus = 0
    change = [0] * len(form.cells)
    for other in unnoticed_changes(form):
        modulus, x, y = bezout(modulus, dot(other, line))
        change = mixed(x, change, y, other)
    return modulus, change


def rest_of(form, line, modulus):
    """Return a line such that the given one is this one times its modulus, plus a line of the span."""
    width = len(form.cells)
    if modulus == 0:
        return [0] * width
    lines = [line] + basis_lines(form)
    # The first factor is 1, since the basis can complete the line itself to a multiple of the modulus.
    factors = divisible_sums(lines, modulus)[0]
    return [number // modulus for number in combined(factors, lines, width)]
