"""Ending papers and ending trees: which rights must end so that an evening keeps at most a given number of rows."""

from askrights.bases import basis_of
from askrights.elimination import traced
from askrights.endings import fewest_endings, least_endings, rights_without
from askrights.futures import future_rows
from askrights.independence import shown_independent
from askrights.matrices import cells_of, line_of
from askrights.spanlines import fractions_for
from askrights.subsets import left_out


def few_rows(rows):
    """Return the basis of the rows, and for each row the fractions of the basis that add up to it."""
    basis = basis_of(rows)
    cells = cells_of(rows)
    form = traced(basis, cells)
    return (basis, tuple([fractions_for(form, line_of(row, cells)) for row in rows]))


def reason_for(rights, day, most):
    """Return the reason why these rights cost more than most."""
    rows = future_rows(rights, day)
    return tuple([(row, change) for at, row, change in shown_independent(rows, most + 1)])


def ending_paper(rights, day, most):
    """Return an ending paper of the rights on the day."""
    names = least_endings(rights, day, most)[0]
    few = few_rows(future_rows(rights_without(rights, names), day))
    # No other name can be left out of a minimal set either, so each one alone makes the others cost too much.
    reasons = [reason_for(rights_without(rights, left_out(names, [name])), day, most) for name in names]
    return (names, few, tuple(reasons))


def tree_reason(rights, day, most):
    """Return the reason of a node: triples of a name, a future row of this right, and a change."""
    owned = [(name, row) for name, right in rights for row in future_rows(((name, right),), day)]
    shown = shown_independent([row for name, row in owned], most + 1)
    return tuple([(owned[at][0], row, change) for at, row, change in shown])


def tree_node(rights, day, most, size):
    """Return an ending tree; every sufficient set has more than size names."""
    reason = tree_reason(rights, day, most)
    if size == 0:
        return (reason, ())
    names = sorted({name for name, row, change in reason})
    # Without one of the rights, every sufficient set still has more than size - 1 names.
    children = [(name, tree_node(rights_without(rights, [name]), day, most, size - 1)) for name in names]
    return (reason, tuple(children))


def ending_tree(rights, day, most, size):
    """Return an ending tree for the rights on the day, or None if a sufficient set has at most size names."""
    if fewest_endings(rights, day, most) <= size:
        return None
    return tree_node(rights, day, most, size)
