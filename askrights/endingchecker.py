"""The checkers of ending papers and ending trees. They compute sums only."""

from askrights.endings import rights_without
from askrights.errors import InvalidPaper
from askrights.fractionsums import gives_row
from askrights.futures import future_rows
from askrights.kinds import are_rows, is_name, is_pair, is_row
from askrights.requestchecker import are_sums
from askrights.rightkinds import are_ascending, are_names, is_tuple_of
from askrights.rowsums import effect_of, first_noticing
from askrights.subsets import left_out


def is_reason(thing):
    """Return whether the value is a tuple of pairs of rows."""
    return isinstance(thing, tuple) and all([is_pair(item) and are_rows(item) for item in thing])


def has_ending_shape(thing):
    """Return whether the value has the shape of an ending paper."""
    if not is_tuple_of(3, thing) or not are_names(thing[0]) or not is_pair(thing[1]):
        return False
    rows, sums = thing[1]
    if not are_rows(rows) or not are_sums(sums):
        return False
    return isinstance(thing[2], tuple) and all([is_reason(item) for item in thing[2]])


def check_few(future, most, rows, sums):
    """Raise InvalidPaper if the rows are more than most, or if the sums do not give the future rows."""
    if len(rows) > most:
        raise InvalidPaper("many", -1)
    if len(sums) != len(future):
        raise InvalidPaper("sums", -1)
    for at, fractions in enumerate(sums):
        if len(fractions) != len(rows):
            raise InvalidPaper("fractions", at)
        if not gives_row(fractions, rows, future[at]):
            raise InvalidPaper("sum", at)


def shows_row(pairs, at):
    """Return whether the row of this pair (row, change) notices its change, and no later row does."""
    row, change = pairs[at]
    later = [other for other, unused in pairs[at + 1:]]
    return effect_of(change, row) != 0 and first_noticing(later, change) is None


def check_reason(future, most, reason, index):
    """Raise InvalidPaper if the reason with this index does not show that the future rows have a greater rank."""
    if len(reason) != most + 1:
        raise InvalidPaper("pairs", index)
    for at, (row, change) in enumerate(reason):
        if row not in future:
            raise InvalidPaper("row", (index, at))
        if not shows_row(reason, at):
            raise InvalidPaper("change", (index, at))


def lets_ending(rights, day, most, thing):
    """Return the names if the value is an ending paper; raise InvalidPaper otherwise."""
    if not has_ending_shape(thing):
        raise InvalidPaper("shape", -1)
    names, (rows, sums), reasons = thing
    if not are_ascending(names) or left_out(names, [name for name, right in rights]) != []:
        raise InvalidPaper("names", -1)
    check_few(future_rows(rights_without(rights, names), day), most, rows, sums)
    if len(reasons) != len(names):
        raise InvalidPaper("reasons", -1)
    for index, reason in enumerate(reasons):
        others = left_out(names, [names[index]])
        check_reason(future_rows(rights_without(rights, others), day), most, reason, index)
    return names


def is_tree_triple(thing):
    """Return whether the value is a triple of a name and two rows."""
    return is_tuple_of(3, thing) and is_name(thing[0]) and is_row(thing[1]) and is_row(thing[2])


def has_tree_shape(thing):
    """Return whether the value has the shape of an ending tree."""
    if not is_pair(thing) or not isinstance(thing[0], tuple) or not isinstance(thing[1], tuple):
        return False
    reason, children = thing
    if not all([is_tree_triple(item) for item in reason]):
        return False
    return all([is_pair(item) and is_name(item[0]) and has_tree_shape(item[1]) for item in children])


def check_tree_reason(rights, day, most, reason, node):
    """Raise InvalidPaper if the reason of the node with this number is not one for these rights."""
    if len(reason) != most + 1:
        raise InvalidPaper("many", node)
    future = {name: future_rows(((name, right),), day) for name, right in rights}
    pairs = [(row, change) for name, row, change in reason]
    for at, (name, row, change) in enumerate(reason):
        if row not in future.get(name, ()):
            raise InvalidPaper("row", (node, at))
        if not shows_row(pairs, at):
            raise InvalidPaper("change", (node, at))


def check_tree(rights, day, most, size, tree, node):
    """Raise InvalidPaper for the first fault; return the number that follows those of the tree's nodes."""
    reason, children = tree
    check_tree_reason(rights, day, most, reason, node)
    names = [] if size == 0 else sorted({name for name, row, change in reason})
    if [name for name, child in children] != names:
        raise InvalidPaper("children", node)
    following = node + 1
    for name, child in children:
        following = check_tree(rights_without(rights, [name]), day, most, size - 1, child, following)
    return following


def lets_ending_tree(rights, day, most, size, thing):
    """Return the number of nodes if the value is an ending tree; raise InvalidPaper otherwise."""
    if not has_tree_shape(thing):
        raise InvalidPaper("shape", -1)
    return check_tree(rights, day, most, size, thing, 0)
