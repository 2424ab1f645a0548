"""The checker of request papers. It computes sums only."""

from askrights.archives import archive_rows
from askrights.errors import InvalidPaper
from askrights.fractionsums import gives_row
from askrights.kinds import are_fractions, is_number, is_pair, is_row
from askrights.requests import request_rows
from askrights.rightkinds import is_tuple_of
from askrights.rowsums import effect_of, first_noticing


def are_sums(thing):
    """Return whether the value is a tuple of tuples of fractions."""
    return isinstance(thing, tuple) and all([are_fractions(item) for item in thing])


def has_request_shape(thing):
    """Return whether the value has the shape of a request paper."""
    if is_pair(thing):
        return thing[0] == "granted" and are_sums(thing[1])
    return is_tuple_of(3, thing) and thing[0] == "refused" and is_number(thing[1]) and is_row(thing[2])


def check_granted(rows, requested, sums):
    """Raise InvalidPaper if the sums do not give the requested rows."""
    if len(sums) != len(requested):
        raise InvalidPaper("many", -1)
    for at, fractions in enumerate(sums):
        if len(fractions) != len(rows):
            raise InvalidPaper("fractions", at)
        if not gives_row(fractions, rows, requested[at]):
            raise InvalidPaper("sum", at)


def check_refused(rows, requested, index, change):
    """Raise InvalidPaper if a row notices the change, or if the requested row does not."""
    if index >= len(requested):
        raise InvalidPaper("index", -1)
    at = first_noticing(rows, change)
    if at is not None:
        raise InvalidPaper("row", at)
    if effect_of(change, requested[index]) == 0:
        raise InvalidPaper("request", -1)


def lets_request(archive, right, thing):
    """Return "granted" or "refused" if the value is a request paper; raise InvalidPaper otherwise."""
    if not has_request_shape(thing):
        raise InvalidPaper("shape", -1)
    rows = archive_rows(archive)
    requested = request_rows(archive, right)
    if thing[0] == "granted":
        check_granted(rows, requested, thing[1])
    else:
        check_refused(rows, requested, thing[1], thing[2])
    return thing[0]
