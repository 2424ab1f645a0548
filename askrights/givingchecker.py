"""The checkers of give papers and fewest papers. They compute sums only."""

from askrights.errors import InvalidPaper
from askrights.giving import owned_left, rows_left, wall_names
from askrights.kinds import are_fractions, is_name, is_pair, is_row
from askrights.rightkinds import are_ascending, are_names, is_tuple_of
from askrights.subsets import left_out
from askrights.wallchecker import falls_fault, stands_fault

DEEPEST = 6


def is_fall(thing):
    """Return whether the value is a pair of a tuple of fractions and a row."""
    return is_pair(thing) and are_fractions(thing[0]) and is_row(thing[1])


def has_give_shape(thing):
    """Return whether the value has the shape of a give paper."""
    if not is_tuple_of(3, thing) or not are_names(thing[0]) or not is_row(thing[1]):
        return False
    return isinstance(thing[2], tuple) and all([is_fall(item) for item in thing[2]])


def has_node_shape(thing, deepest):
    """Return whether the value has the shape of a node with nodes nested at most this deep."""
    if deepest == 0 or not is_tuple_of(3, thing) or not is_fall(thing[:2]) or not isinstance(thing[2], tuple):
        return False
    return all([is_pair(item) and is_name(item[0]) and has_node_shape(item[1], deepest - 1) for item in thing[2]])


def has_fewest_shape(thing):
    """Return whether the value has the shape of a fewest paper."""
    if is_tuple_of(3, thing):
        return thing[0] == "never" and is_fall(thing[1:])
    if not is_tuple_of(4, thing) or thing[0] != "fewest" or not are_names(thing[1]) or not is_row(thing[2]):
        return False
    return thing[3] == () or has_node_shape(thing[3], DEEPEST)


def check_given(rights, today, known, wall, names, change):
    """Raise InvalidPaper if names are not such names, or if the change does not show that the wall stands."""
    if not are_ascending(names) or left_out(names, wall_names(rights, wall)) != []:
        raise InvalidPaper("names", -1)
    fault = stands_fault(rows_left(rights, today, known, wall, names), wall[1], wall[2], change)
    if fault is not None:
        raise InvalidPaper(fault[0], fault[1])


def lets_give(rights, today, known, wall, thing):
    """Return the names if the value is a give paper; raise InvalidPaper otherwise."""
    if not has_give_shape(thing):
        raise InvalidPaper("shape", -1)
    names, change, reasons = thing
    check_given(rights, today, known, wall, names, change)
    if len(reasons) != len(names):
        raise InvalidPaper("reasons", -1)
    for index, (fractions, rest) in enumerate(reasons):
        rows = rows_left(rights, today, known, wall, left_out(names, [names[index]]))
        fault = falls_fault(rows, wall[1], wall[2], fractions, rest)
        if fault is not None:
            raise InvalidPaper(fault[0], (index, fault[1]))
    return names


def names_used(owned, fractions):
    """Return the ascending list of the owners of the rows whose fraction is not 0."""
    return sorted({owner for (owner, row), (numerator, denominator) in zip(owned, fractions)
                   if owner is not None and numerator != 0})


def check_node(rights, today, known, wall, fewest, node, path):
    """Raise InvalidPaper for the first fault of the node with this path and of the nodes below it."""
    fractions, rest, children = node
    owned = owned_left(rights, today, known, wall, path)
    fault = falls_fault([row for owner, row in owned], wall[1], wall[2], fractions, rest)
    if fault is not None:
        raise InvalidPaper(fault[0], (path, fault[1]))
    names = [] if len(path) + 1 >= fewest else names_used(owned, fractions)
    if [name for name, child in children] != names:
        raise InvalidPaper("children", path)
    for name, child in children:
        check_node(rights, today, known, wall, fewest, child, (*path, name))


def lets_fewest(rights, today, known, wall, thing):
    """Return the number of names, or None for "never", if the value is a fewest paper; raise InvalidPaper otherwise."""
    if not has_fewest_shape(thing):
        raise InvalidPaper("shape", -1)
    if thing[0] == "never":
        rows = rows_left(rights, today, known, wall, wall_names(rights, wall))
        fault = falls_fault(rows, wall[1], wall[2], thing[1], thing[2])
        if fault is not None:
            raise InvalidPaper(fault[0], fault[1])
        return None
    word, names, change, node = thing
    check_given(rights, today, known, wall, names, change)
    if (names == ()) != (node == ()):
        raise InvalidPaper("node", ())
    if node != ():
        check_node(rights, today, known, wall, len(names), node, ())
    return len(names)
