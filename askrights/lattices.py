"""The integer factors with which a sum of lines is divisible by a number."""

from askrights.arithmetic import bezout
from askrights.matrices import dot, mixed, unit_line


def lowered(line, start, basis):
    """Return the line with its numbers from start on reduced by the lines of the triangular basis there."""
    for at in range(start, len(basis)):
        times = line[at] // basis[at][at]
        if times != 0:
            line = mixed(1, line, -times, basis[at])
    return line


def refined(basis, column, modulus):
    """Return the triangular basis of those sums of the basis whose product with the column is divisible.

    carrier is a sum of the lines behind the present one. Its product with the column is step, up to
    multiples of the modulus, and step divides the products of all those lines and the modulus.
    """
    result = list(basis)
    step = modulus
    carrier = [0] * len(basis)
    for at in reversed(range(len(basis))):
        product = dot(basis[at], column) % modulus
        common, x, y = bezout(step, product)
        line = mixed(step // common, basis[at], -(product // common), carrier)
        result[at] = lowered(line, at + 1, result)
        carrier = lowered(mixed(x, carrier, y, basis[at]), at, result)
        step = common
    return result


def divisible_sums(lines, modulus):
    """Return the basis of all lists of factors whose sum of factor times line is divisible in every place.

    The basis is triangular: line k of it begins at place k with a positive number, and the numbers above
    that one are at least 0 and less than it. So all numbers stay below the modulus, or equal to it.
    """
    basis = [unit_line(at, len(lines)) for at in range(len(lines))]
    if lines == []:
        return basis
    for place in range(len(lines[0])):
        basis = refined(basis, [line[place] for line in lines], modulus)
    return basis
