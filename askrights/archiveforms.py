"""What an archive can answer, found by one elimination of its rows with their values behind them."""

from askrights.archives import archive_rows, archive_values
from askrights.elimination import Reduced
from askrights.futures import needed_spans, rows_of_spans
from askrights.matrices import cells_of, combined, line_of
from askrights.spanlines import missed_column


def archive_form(archive):
    """Return the reduced form of the archive's rows; behind each line stands its value."""
    rows = archive_rows(archive)
    cells = cells_of(rows)
    lines = [line_of(row, cells) + [value] for row, value in zip(rows, archive_values(archive))]
    return Reduced(lines, cells)


def answer_by(form, row):
    """Return the answer of the row, or None if the archive with this form cannot answer it."""
    if any([cell not in form.cells for cell, weight in row]):
        return None
    line = line_of(row, form.cells)
    if missed_column(form, line) is not None:
        return None
    factors = [line[column] for column in form.pivots]
    return combined(factors, form.behind, 1)[0] // form.divisor


def serves(form, right, day):
    """Return whether the archive with this form can answer all needed rows of the right on the day."""
    spans = needed_spans(right, day)
    # A row with more days than there are cells cannot be answered, and it could be too long to be written out.
    if any([high - low >= len(form.cells) for low, last, high in spans]):
        return False
    return all([answer_by(form, row) is not None for row in rows_of_spans(right, spans)])
