"""Fair shares as a mixture of the increments along orders.

A point states shares as a pair (numerators, denominator): a dict with one integer for each name, and their
common denominator. The room of a set of names is what its shares lack up to its cost, times the denominator.
"""

from askrights.arithmetic import common_divisor, lowest
from askrights.fractionsums import common_denominator, whole_factors


def point_of(shares):
    """Return the point of the shares."""
    fractions = [fraction for name, fraction in shares]
    denominator = common_denominator(fractions)
    numerators = whole_factors(fractions, denominator)
    return {name: numerator for (name, fraction), numerator in zip(shares, numerators)}, denominator


def room_of(table, point, names):
    """Return the room of the names; it is less than 0 if their shares add up to more than their cost."""
    numerators, denominator = point
    return denominator * table.cost(names) - sum([numerators[name] for name in names])


def order_through(table, point, subsets):
    """Return an order whose increments leave no room wherever the point leaves none; shorter subsets come first.

    Since the cost is submodular, unions and intersections of sets without room have no room either. So the
    sets without room, the shorter ones first, are joined to a chain of such sets that is as long as possible.
    Every set without room consists of whole links of the chain, and the names of a link have the same sum at
    the point and along the order.
    """
    order = []
    for subset in subsets:
        if room_of(table, point, subset) == 0:
            order.extend([name for name in subset if name not in order])
    return tuple(order)


def reach_beyond(table, point, corner, subsets):
    """Return (steps, parts): the point can go on in the direction away from the corner by steps / parts.

    The way from the corner to the point has the length 1. Where the way ends, one more set has no room.
    """
    numerators, denominator = point
    nearest = None
    for subset in subsets:
        room = room_of(table, point, subset)
        growth = sum([numerators[name] - denominator * corner[name] for name in subset])
        if growth > 0 and (nearest is None or room * nearest[1] < nearest[0] * growth):
            nearest = (room, growth)
    return nearest


def moved_beyond(point, corner, steps, parts):
    """Return the point at the end of the way."""
    numerators, denominator = point
    moved = {name: (steps + parts) * numerators[name] - steps * denominator * corner[name] for name in numerators}
    whole = parts * denominator
    common = whole
    for number in list(moved.values()):
        common = common_divisor(common, number)
    return {name: moved[name] // common for name in moved}, whole // common


def mixture_of(table, point, subsets):
    """Return the ascending pairs (order, fraction) whose mixture of increments is the fair point."""
    pairs = []
    left = (1, 1)
    while True:
        order = order_through(table, point, subsets)
        corner = {name: increment for name, increment in zip(order, table.increments(order))}
        nearest = reach_beyond(table, point, corner, subsets)
        if nearest is None:
            return tuple(sorted(pairs + [(order, left)]))
        # The point lies between the corner and the end of the way. There the corner leaves room in a set that
        # has none any more, so no order comes twice, and the sets without room become more until none grows.
        steps, parts = nearest
        pairs.append((order, lowest(left[0] * steps, left[1] * (steps + parts))))
        left = lowest(left[0] * parts, left[1] * (steps + parts))
        point = moved_beyond(point, corner, steps, parts)
