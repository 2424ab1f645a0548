"""Subsets, and the minimal ones that suffice for a goal."""


def subsets_of(items):
    """Return the lists of some of the items, the shorter ones first; each has the items in their order."""
    subsets = [[]]
    for item in items:
        subsets = subsets + [subset + [item] for subset in subsets]
    return sorted(subsets, key=len)


def left_out(items, some):
    """Return the list of the items that are not among some of them."""
    return [item for item in items if item not in some]


def minimal_sets(names, suffices):
    """Return the minimal sets, ascending; suffices tells of a list of names whether it is sufficient."""
    found = []
    # The shorter sets come first, so a set is minimal if it contains none of those found before.
    for subset in subsets_of(names):
        if all([left_out(smaller, subset) != [] for smaller in found]) and suffices(subset):
            found.append(tuple(subset))
    return tuple(sorted(found))
