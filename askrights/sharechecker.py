"""The checker of shares papers. It computes costs and sums only."""

from askrights.costtables import CostTable
from askrights.errors import InvalidPaper
from askrights.fractionsums import number_sum
from askrights.kinds import is_fraction, is_pair
from askrights.rightkinds import are_ascending, are_names


def are_mixed_orders(thing):
    """Return whether the value is a nonempty tuple of pairs of a tuple of names and a fraction."""
    if not isinstance(thing, tuple) or thing == ():
        return False
    return all([is_pair(item) and are_names(item[0]) and is_fraction(item[1]) for item in thing])


def has_shares_shape(thing):
    """Return whether the value has the shape of a shares paper."""
    if not is_pair(thing):
        return thing == ("sum",)
    if thing[0] == "fair":
        return are_mixed_orders(thing[1])
    return thing[0] == "unfair" and are_names(thing[1]) and thing[1] != ()


def is_sum_of(fraction, fractions, numbers):
    """Return whether the fraction is the sum of the fractions times the numbers."""
    total, denominator = number_sum(fractions, numbers)
    return fraction[0] * denominator == total * fraction[1]


def check_pairs(names, pairs):
    """Raise InvalidPaper if the pairs are not ascending orders of all names with fractions that add up to 1."""
    for at, (order, fraction) in enumerate(pairs):
        if sorted(order) != names or (at > 0 and order <= pairs[at - 1][0]):
            raise InvalidPaper("order", at)
        if fraction[0] <= 0:
            raise InvalidPaper("fraction", at)
    fractions = [fraction for order, fraction in pairs]
    if not is_sum_of((1, 1), fractions, [1] * len(fractions)):
        raise InvalidPaper("total", -1)


def check_fair(table, shares, pairs):
    """Raise InvalidPaper if the shares are not the mixture of the increments along the orders."""
    check_pairs([name for name, fraction in shares], pairs)
    fractions = [fraction for order, fraction in pairs]
    increments = []
    for order, fraction in pairs:
        increments.append({name: number for name, number in zip(order, table.increments(order))})
    for at, (name, share) in enumerate(shares):
        if not is_sum_of(share, fractions, [numbers[name] for numbers in increments]):
            raise InvalidPaper("share", at)


def room_left(table, shares, names):
    """Return a number that is 0 if the names' shares add up to their cost, less if they add up to more."""
    fractions = [fraction for name, fraction in shares if name in names]
    total, denominator = number_sum(fractions, [1] * len(fractions))
    return denominator * table.cost(names) - total


def check_unfair(table, shares, names):
    """Raise InvalidPaper if the shares of the names do not add up to more than their cost."""
    known = [name for name, fraction in shares]
    if not are_ascending(names) or any([name not in known for name in names]):
        raise InvalidPaper("names", -1)
    if room_left(table, shares, names) >= 0:
        raise InvalidPaper("more", -1)


def lets_shares(rights, day, shares, thing):
    """Return "fair", "unfair" or "sum" if the value is a shares paper; raise InvalidPaper otherwise."""
    if not has_shares_shape(thing):
        raise InvalidPaper("shape", -1)
    table = CostTable(rights, day)
    if thing[0] == "fair":
        check_fair(table, shares, thing[1])
    elif thing[0] == "unfair":
        check_unfair(table, shares, thing[1])
    elif room_left(table, shares, [name for name, fraction in shares]) == 0:
        raise InvalidPaper("equal", -1)
    return thing[0]
