"""Sums, multiples and parts of rows, their values, and the effects of changes."""


def add_rows(one, other):
    """Return the sum of two rows."""
    weights = {cell: weight for cell, weight in one}
    for cell, weight in other:
        weights[cell] = weights.get(cell, 0) + weight
    return tuple([(cell, weights[cell]) for cell in sorted(weights) if weights[cell] != 0])


def scale_row(row, factor):
    """Return the row with each weight multiplied by the integer factor."""
    if factor == 0:
        return ()
    return tuple([(cell, weight * factor) for cell, weight in row])


def is_inside(cell, last_day, accounts):
    """Return whether the cell lies on the days and accounts; None stands for all of them."""
    account, day = cell
    return (last_day is None or day <= last_day) and (accounts is None or account in accounts)


def part_of(row, *, last_day=None, accounts=None):
    """Return the part of the row on the days up to last_day and on the accounts."""
    return tuple([(cell, weight) for cell, weight in row if is_inside(cell, last_day, accounts)])


def effect_of(change, row):
    """Return the effect of the change on the row."""
    weights = {cell: weight for cell, weight in row}
    return sum([weight * weights.get(cell, 0) for cell, weight in change])


def row_value(row, data):
    """Return the value of the row in the data."""
    # Data has the form of a change from nothing, and its effect is the value.
    return effect_of(data, row)


def first_noticing(rows, change):
    """Return the index of the first row that notices the change, or None."""
    for at, row in enumerate(rows):
        if effect_of(change, row) != 0:
            return at
    return None
