"""Answer papers: how rows give the answer of a question, or a change that shows that they do not."""

from askrights.elimination import traced
from askrights.matrices import cells_of, line_of, row_of
from askrights.spanlines import change_missing, fractions_for, missed_column


def answer_paper(rows, question):
    """Return an answer paper of the rows and the question."""
    cells = cells_of((*rows, question))
    form = traced(rows, cells)
    line = line_of(question, cells)
    column = missed_column(form, line)
    if column is None:
        return ("answer", fractions_for(form, line))
    return ("lost", row_of(change_missing(form, column), cells))
