"""Fair shares of the cost, and papers that show whether shares are fair."""

from askrights.arithmetic import lowest
from askrights.costtables import CostTable
from askrights.mixtures import mixture_of, point_of, room_of
from askrights.subsets import subsets_of


def factorial(number):
    """Return the number of orders of this many names."""
    product = 1
    for factor in range(2, number + 1):
        product *= factor
    return product


def mean_increment(table, names, name):
    """Return the mean of the increments of the name over all orders of the names."""
    others = [other for other in names if other != name]
    total = 0
    for before in subsets_of(others):
        orders = factorial(len(before)) * factorial(len(others) - len(before))
        total += orders * (table.cost(before + [name]) - table.cost(before))
    return lowest(total, factorial(len(names)))


def fair_shares(rights, day):
    """Return the shares in which each right has the mean of its increments over all orders."""
    table = CostTable(rights, day)
    names = [name for name, right in rights]
    return tuple([(name, mean_increment(table, names, name)) for name in names])


def shares_paper(rights, day, shares):
    """Return a shares paper of the shares."""
    table = CostTable(rights, day)
    names = [name for name, right in rights]
    point = point_of(shares)
    if room_of(table, point, names) != 0:
        return ("sum",)
    subsets = subsets_of(names)
    for subset in subsets:
        if room_of(table, point, subset) < 0:
            return ("unfair", tuple(subset))
    return ("fair", mixture_of(table, point, subsets))
