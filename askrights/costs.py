"""The costs of rights: how many values an evening keeps because of them."""

from askrights.costtables import CostTable
from askrights.errors import UnknownName
from askrights.futures import future_rows
from askrights.rightparts import with_last
from askrights.spans import rank_of


def cost_of(rights, day):
    """Return the cost of the rights in the evening of the day."""
    return rank_of(future_rows(rights, day))


def last_costly_day(rights):
    """Return a day after which no evening costs anything, -1 if none ever does."""
    return max([right[3] - 1 for name, right in rights], default=-1)


def cost_over(rights, first, last):
    """Return the sum of the costs of the evenings from first to last."""
    return sum([cost_of(rights, day) for day in range(first, min(last, last_costly_day(rights)) + 1)])


def check_names(rights, names):
    """Raise UnknownName for the first name that is none of the rights."""
    known = [name for name, right in rights]
    for name in names:
        if name not in known:
            raise UnknownName(name)


def increments_of(rights, order, day):
    """Return the increment of each name of the order; raise UnknownName."""
    check_names(rights, order)
    return CostTable(rights, day).increments(order)


def extension_price(rights, name, last, *, today=0):
    """Return by how much the cost of all evenings from today on increases with this last day of the named right."""
    check_names(rights, [name])
    extended = tuple([(other, with_last(right, last) if other == name else right) for other, right in rights])
    final = last_costly_day(extended)
    return cost_over(extended, today, final) - cost_over(rights, today, final)
