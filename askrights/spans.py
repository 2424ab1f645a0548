"""The rank of rows, and whether a row is in their span."""

from askrights.elimination import reduced
from askrights.matrices import cells_of, line_of
from askrights.spanlines import missed_column


def rank_of(rows):
    """Return the rank of the rows."""
    return len(reduced(rows, cells_of(rows)).pivots)


def in_span(rows, row):
    """Return whether the row is in the span of the rows."""
    cells = cells_of((*rows, row))
    return missed_column(reduced(rows, cells), line_of(row, cells)) is None
