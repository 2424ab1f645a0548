"""Answers of an archive to single rows."""

from askrights.archiveforms import answer_by, archive_form
from askrights.errors import NotAnswerable


def can_answer(archive, row):
    """Return whether the archive can answer the row."""
    return answer_by(archive_form(archive), row) is not None


def answer_from(archive, row):
    """Return the answer of the row; raise NotAnswerable if the archive cannot answer it."""
    answer = answer_by(archive_form(archive), row)
    if answer is None:
        raise NotAnswerable(row)
    return answer
