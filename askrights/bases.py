"""The basis of rows, and the coordinates of a row in it."""

from askrights.elimination import reduced
from askrights.matrices import cells_of, row_of
from askrights.rowsums import add_rows, scale_row
from askrights.spanlines import basis_lines


def basis_of(rows):
    """Return the basis of the rows."""
    cells = cells_of(rows)
    return tuple([row_of(line, cells) for line in basis_lines(reduced(rows, cells))])


def weight_at(row, cell):
    """Return the weight of the row at the cell, 0 if it is missing."""
    for other, weight in row:
        if other == cell:
            return weight
    return 0


def coordinates_in(rows, row):
    """Return the coordinates of the row in the rows as a tuple, or None if it is not in the span."""
    rest = row
    coordinates = []
    for line in basis_of(rows):
        cell, weight = line[0]
        # What a division leaves at the first cell of a line, no later line takes away.
        factor = weight_at(rest, cell) // weight
        coordinates.append(factor)
        rest = add_rows(rest, scale_row(line, -factor))
    return tuple(coordinates) if rest == () else None
