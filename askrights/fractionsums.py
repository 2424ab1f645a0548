"""Sums of fractions of rows and of integers, over a common denominator."""

from askrights.arithmetic import common_divisor
from askrights.rowsums import add_rows, scale_row


def common_denominator(fractions):
    """Return a number that all denominators divide."""
    common = 1
    for numerator, denominator in fractions:
        common = common // common_divisor(common, denominator) * denominator
    return common


def whole_factors(fractions, denominator):
    """Return the integers that are the fractions times a common denominator."""
    return [numerator * (denominator // part) for numerator, part in fractions]


def row_sum(fractions, rows):
    """Return (row, denominator): the sum of fraction times row is the row over the denominator."""
    denominator = common_denominator(fractions)
    total = ()
    for factor, row in zip(whole_factors(fractions, denominator), rows):
        total = add_rows(total, scale_row(row, factor))
    return total, denominator


def gives_row(fractions, rows, row):
    """Return whether the sum of fraction times row is this row."""
    total, denominator = row_sum(fractions, rows)
    return total == scale_row(row, denominator)


def number_sum(fractions, numbers):
    """Return (total, denominator): the sum of fraction times number is the total over the denominator."""
    denominator = common_denominator(fractions)
    factors = whole_factors(fractions, denominator)
    return sum([factor * number for factor, number in zip(factors, numbers)]), denominator
