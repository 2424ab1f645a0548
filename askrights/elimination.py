"""Elimination without fractions: rows, reduced to lines with one common number at their first places."""

from askrights.matrices import line_of, unit_line


def pivot_index(lines, start, column):
    """Return the index from start on of the first line that is not 0 in the column, or None."""
    for at in range(start, len(lines)):
        if lines[at][column] != 0:
            return at
    return None


def cleared(lines, at, column, divisor):
    """Return the lines with 0 in the column everywhere but in line at, each multiplied by its number there."""
    chosen = lines[at]
    pivot = chosen[column]
    result = []
    for index, line in enumerate(lines):
        if index == at:
            result.append(chosen)
        else:
            # The division is exact, since every number of such a line is a determinant (Bareiss).
            factor = line[column]
            result.append([(pivot * number - factor * other) // divisor for number, other in zip(line, chosen)])
    return result


def eliminated(matrix, width):
    """Return (pivots, divisor, lines), with pivots in the first width columns only.

    In the first lines, one for each pivot, the divisor stands at the line's own pivot and 0 at the other
    pivots. All further lines are 0 in the first width columns.
    """
    lines = list(matrix)
    pivots = []
    divisor = 1
    for column in range(width):
        rank = len(pivots)
        found = pivot_index(lines, rank, column)
        if found is not None:
            lines[rank], lines[found] = lines[found], lines[rank]
            lines = cleared(lines, rank, column, divisor)
            divisor = lines[rank][column]
            pivots.append(column)
    if divisor < 0:
        divisor = -divisor
        lines = [[-number for number in line] for line in lines]
    return pivots, divisor, lines


class Reduced:
    """The reduced form of a matrix over cells; the matrix may have more columns behind those of the cells.

    lines are the reduced lines over the cells, and behind is what stands behind them. ties is what stands
    behind the lines that have become 0 over the cells. free are the columns without a pivot.
    """

    def __init__(self, matrix, cells):
        width = len(cells)
        pivots, divisor, lines = eliminated(matrix, width)
        rank = len(pivots)
        self.cells = cells
        self.many = len(matrix)
        self.pivots = pivots
        self.free = [column for column in range(width) if column not in pivots]
        self.divisor = divisor
        self.lines = [line[:width] for line in lines[:rank]]
        self.behind = [line[width:] for line in lines[:rank]]
        self.ties = [line[width:] for line in lines[rank:]]


def reduced(rows, cells):
    """Return the reduced form of the rows."""
    return Reduced([line_of(row, cells) for row in rows], cells)


def traced(rows, cells):
    """Return the reduced form of the rows; behind each line stand its factors: it is their sum of the rows."""
    many = len(rows)
    return Reduced([line_of(row, cells) + unit_line(at, many) for at, row in enumerate(rows)], cells)
