"""Rows none of which is in the span of the others, with changes that show it."""

from askrights.elimination import eliminated
from askrights.matrices import cells_of, line_of
from askrights.smallest import smallest_paper


def independent_indexes(rows):
    """Return the indexes of the rows that are not in the span of the rows before them."""
    cells = cells_of(rows)
    lines = [line_of(row, cells) for row in rows]
    # The rows are the columns here: a column without a pivot is a sum of fractions of the columns before it.
    columns = [[line[at] for line in lines] for at in range(len(cells))]
    pivots, divisor, rest = eliminated(columns, len(rows))
    return pivots


def shown_independent(rows, many):
    """Return triples (index, row, change) for this many rows; each notices its change, and no other one does."""
    indexes = independent_indexes(rows)[:many]
    chosen = tuple([rows[at] for at in indexes])
    return list(zip(indexes, chosen, smallest_paper(chosen)))
