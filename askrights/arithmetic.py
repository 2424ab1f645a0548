"""Common divisors and fractions of integers."""


def common_divisor(one, other):
    """Return the greatest common divisor, a number; it is 0 for two zeros."""
    while other != 0:
        one, other = other, one % other
    return abs(one)


def bezout(one, other):
    """Return (common, x, y): the greatest common divisor, which is x * one + y * other."""
    common, rest = one, other
    x, following = 1, 0
    while rest != 0:
        times = common // rest
        common, rest = rest, common - times * rest
        x, following = following, x - times * following
    if common < 0:
        common, x = -common, -x
    y = 0 if other == 0 else (common - x * one) // other
    return common, x, y


def lowest(numerator, denominator):
    """Return numerator / denominator as a fraction; the denominator is not 0."""
    common = common_divisor(numerator, denominator)
    if denominator < 0:
        common = -common
    return (numerator // common, denominator // common)
