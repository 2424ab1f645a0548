"""The evening: what it shows, what it keeps, and the archive after it."""

from askrights.archiveforms import answer_by, archive_form
from askrights.archives import no_entries
from askrights.bases import basis_of
from askrights.futures import future_rows
from askrights.questions import question_on
from askrights.rowsums import row_value


def shown_by(archive):
    """Return the answers that today's evening shows: an ascending tuple of (name, person, question, value)."""
    form = archive_form(archive)
    shown = []
    for name, right in archive[2]:
        question = question_on(right, archive[1])
        if question is not None:
            shown.append((name, right[0], question, answer_by(form, question)))
    return tuple(shown)


def keep_of(rights, data, day):
    """Return the kept part of the rights on the day in the data."""
    return tuple([(row, row_value(row, data)) for row in basis_of(future_rows(rights, day))])


def after_evening(archive):
    """Return the archive after today's evening."""
    accounts, today, rights, kept, current = archive
    remaining = tuple([(name, right) for name, right in rights if right[3] > today])
    form = archive_form(archive)
    rows = basis_of(future_rows(remaining, today))
    next_kept = tuple([(row, answer_by(form, row)) for row in rows])
    return (accounts, today + 1, remaining, next_kept, no_entries(accounts))
