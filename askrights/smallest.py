"""Smallest papers: changes that show that no row can be spared."""

from askrights.elimination import traced
from askrights.matrices import cells_of, row_of


def smallest_paper(rows):
    """Return a smallest paper of the rows, or None if their rank is less than their number."""
    form = traced(rows, cells_of(rows))
    if len(form.pivots) < len(rows):
        return None
    # The factors behind the lines invert the rows at the pivots. So column k of them is a change at the
    # pivots that row k notices, and no other row.
    places = [form.cells[column] for column in form.pivots]
    return tuple([row_of([factors[at] for factors in form.behind], places) for at in range(len(rows))])
