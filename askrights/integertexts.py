"""Integers in decimal: how they are written and read."""

DIGITS = "0123456789"
MOST_DIGITS = 60
PIECE = 10 ** 60


def number_text(number):
    """Return the digits of a number, without leading zeros."""
    # Python refuses to write a very long integer at once, so each piece of sixty digits is written alone.
    pieces = []
    while number >= PIECE:
        number, piece = divmod(number, PIECE)
        pieces.append(str(piece).zfill(60))
    pieces.append(str(number))
    return "".join(pieces[::-1])


def integer_text(integer):
    """Return the integer in decimal, with a minus sign if it is negative."""
    return "-" + number_text(-integer) if integer < 0 else number_text(integer)


def number_read(text):
    """Return the number that the text writes, or None; more than sixty digits write none."""
    if not 1 <= len(text) <= MOST_DIGITS or not all([digit in DIGITS for digit in text]):
        return None
    if text[0] == "0" and text != "0":
        return None
    return int(text)


def integer_read(text):
    """Return the integer that the text writes, or None; more than sixty digits write none."""
    if not text.startswith("-"):
        return number_read(text)
    number = number_read(text[1:])
    return None if number is None or number == 0 else -number
