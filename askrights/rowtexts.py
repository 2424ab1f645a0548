"""The written form of rows."""

from askrights.integertexts import integer_text


def part_text(cell, weight):
    """Return the part of one cell and its weight."""
    account, day = cell
    return account + "." + integer_text(day) + ":" + integer_text(weight)


def row_text(row):
    """Return the word of a row."""
    if row == ():
        return "-"
    return ",".join([part_text(cell, weight) for cell, weight in row])


def rows_text(rows):
    """Return the string of rows, one line for each."""
    return "\n".join([row_text(row) for row in rows])
