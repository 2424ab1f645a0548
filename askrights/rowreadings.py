"""Reading rows from their written form."""

from askrights.errors import InvalidText
from askrights.integertexts import integer_read, number_read
from askrights.kinds import is_name


def part_read(part):
    """Return the pair (cell, weight) that the part writes, or None."""
    account, point, rest = part.partition(".")
    day_text, colon, weight_text = rest.partition(":")
    day = number_read(day_text)
    weight = integer_read(weight_text)
    if not is_name(account) or day is None or weight is None or weight == 0:
        return None
    return ((account, day), weight)


def row_read(text, *, line=0):
    """Return the row that the text writes; raise InvalidText(line, field) for its first invalid part."""
    if text == "-":
        return ()
    pairs = []
    for field, part in enumerate(text.split(",")):
        pair = part_read(part)
        if pair is None or (pairs != [] and pair[0] <= pairs[-1][0]):
            raise InvalidText(line, field)
        pairs.append(pair)
    return tuple(pairs)


def rows_read(text):
    """Return the tuple of rows that the text writes; raise InvalidText for the first line that is not valid."""
    if text == "":
        return ()
    return tuple([row_read(word, line=at) for at, word in enumerate(text.split("\n"))])
