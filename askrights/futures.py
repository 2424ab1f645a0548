"""The future rows and the needed rows of rights.

The rows that a right still needs have its weights on some days without a gap. So they are stated as triples
(low, last, high): one row begins on each day from low to last, and all of them end on the day high. The
number of the days of use does not matter then, however great it is.
"""

from askrights.questions import asked_days, is_used_on, row_on_days


def future_spans(right, day):
    """Return a list of at most one triple for the right's future rows on the day."""
    soonest, latest = max(right[2], day + 1), right[3]
    if soonest > latest:
        return []
    # Only the first day of a question can depend on the day of use, once the days after the day are left out.
    low, high = asked_days(right, soonest)
    last = asked_days(right, latest)[0]
    return [(low, last, min(high, day))]


def needed_spans(right, day):
    """Return a list of at most two triples for the right's needed rows on the day."""
    spans = future_spans(right, day)
    if is_used_on(right, day):
        low, high = asked_days(right, day)
        spans.append((low, low, high))
    return spans


def rows_of_spans(right, spans):
    """Return the list of the rows of some triples, without zero rows."""
    rows = []
    for low, last, high in spans:
        rows.extend([row_on_days(right, begin, high) for begin in range(low, min(last, high) + 1)])
    return rows


def future_rows(rights, day):
    """Return the future rows of the rights on the day, ascending."""
    return tuple(sorted({row for name, right in rights for row in rows_of_spans(right, future_spans(right, day))}))


def needed_rows(rights, day):
    """Return the needed rows of the rights on the day, ascending."""
    return tuple(sorted({row for name, right in rights for row in rows_of_spans(right, needed_spans(right, day))}))
