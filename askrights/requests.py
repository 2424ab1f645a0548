"""Requests: what an archive must be able to answer for a right, and papers that show whether it can."""

from askrights.answerpapers import answer_paper
from askrights.archives import archive_rows
from askrights.questions import asked_days, row_on_days


def request_rows(archive, right):
    """Return the requested rows of the right, one for each day of use from today on."""
    today = archive[1]
    rows = []
    for day in range(max(right[2], today), right[3] + 1):
        low, high = asked_days(right, day)
        rows.append(row_on_days(right, low, min(high, today)))
    return tuple(rows)


def request_paper(archive, right):
    """Return a request paper of the archive and the right."""
    rows = archive_rows(archive)
    sums = []
    for at, requested in enumerate(request_rows(archive, right)):
        word, proof = answer_paper(rows, requested)
        if word == "lost":
            return ("refused", at, proof)
        sums.append(proof)
    return ("granted", tuple(sums))
