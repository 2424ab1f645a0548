"""The costs of sets of rights on one day."""

from askrights.futures import future_rows
from askrights.spans import rank_of


class CostTable:
    """The costs of some of the rights on a day. Each set of names is computed only once."""

    def __init__(self, rights, day):
        self.rights = rights
        self.day = day
        self.found = {}

    def cost(self, names):
        """Return the cost of the rights with these names."""
        key = tuple(sorted(names))
        if key not in self.found:
            some = tuple([(name, right) for name, right in self.rights if name in key])
            self.found[key] = rank_of(future_rows(some, self.day))
        return self.found[key]

    def increments(self, order):
        """Return the increment of each name of the order, as a tuple."""
        costs = [self.cost(order[:many]) for many in range(len(order) + 1)]
        return tuple([after - before for before, after in zip(costs, costs[1:])])
