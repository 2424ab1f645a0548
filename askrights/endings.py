"""The minimal sets of rights whose end reduces the cost of an evening to a given number."""

from askrights.costtables import CostTable
from askrights.subsets import left_out, minimal_sets


def rights_without(rights, names):
    """Return the rights that have none of the names."""
    return tuple([(name, right) for name, right in rights if name not in names])


def least_endings(rights, day, most):
    """Return all minimal sets of names whose end leaves a cost of at most most."""
    table = CostTable(rights, day)
    names = [name for name, right in rights]
    return minimal_sets(names, lambda some: table.cost(left_out(names, some)) <= most)


def fewest_endings(rights, day, most):
    """Return the smallest number of names whose end leaves a cost of at most most."""
    return min([len(names) for names in least_endings(rights, day, most)])
