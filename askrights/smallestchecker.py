"""The checker of smallest papers. It computes sums only."""

from askrights.errors import InvalidPaper
from askrights.kinds import are_rows
from askrights.rowsums import effect_of, first_noticing


def lets_smallest(rows, thing):
    """Return the number of rows if the value is a smallest paper; raise InvalidPaper otherwise."""
    if not are_rows(thing):
        raise InvalidPaper("shape", -1)
    if len(thing) != len(rows):
        raise InvalidPaper("many", -1)
    for at, change in enumerate(thing):
        if effect_of(change, rows[at]) == 0:
            raise InvalidPaper("unnoticed", at)
        behind = first_noticing(rows[at + 1:], change)
        if behind is not None:
            raise InvalidPaper("notices", (at, at + 1 + behind))
    return len(rows)
