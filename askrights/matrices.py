"""Rows as lines: lists with one integer for each of some cells."""


def cells_of(rows):
    """Return the ascending list of all cells of the rows."""
    return sorted({cell for row in rows for cell, weight in row})


def line_of(row, cells):
    """Return the line of a row that has none but these cells."""
    weights = {cell: weight for cell, weight in row}
    return [weights.get(cell, 0) for cell in cells]


def row_of(line, cells):
    """Return the row of a line over ascending cells."""
    return tuple([(cell, number) for cell, number in zip(cells, line) if number != 0])


def unit_line(at, width):
    """Return the line with 1 at one place and 0 at the others."""
    return [1 if place == at else 0 for place in range(width)]


def dot(one, other):
    """Return the sum of the products, place by place."""
    return sum([number * factor for number, factor in zip(one, other)])


def mixed(factor, line, other_factor, other_line):
    """Return the sum of factor times line for two lines."""
    return [factor * number + other_factor * other for number, other in zip(line, other_line)]


def combined(factors, lines, width):
    """Return the sum of factor times line; the width is that of the lines, even if there are none."""
    total = [0] * width
    for factor, line in zip(factors, lines):
        if factor != 0:
            total = mixed(1, total, factor, line)
    return total
