"""Giving up rights so that a wall stands."""

from askrights.costs import check_names
from askrights.questions import questions_from
from askrights.subsets import minimal_sets
from askrights.walls import stands


def wall_rights(rights, wall):
    """Return the list of the named rights whose person belongs to the group of the wall."""
    return [(name, right) for name, right in rights if right[0] in wall[0]]


def wall_names(rights, wall):
    """Return the list of the names of the rights of the wall."""
    return [name for name, right in wall_rights(rights, wall)]


def owned_left(rights, today, known, wall, names):
    """Return the list of the rows that are left without these names, as pairs (owner, row).

    The owner is the name of the right that asks for the row, or None for a known row.
    """
    owned = [(None, row) for row in known]
    for name, right in wall_rights(rights, wall):
        if name not in names:
            owned.extend([(name, row) for row in questions_from(right, today)])
    return owned


def rows_left(rights, today, known, wall, names):
    """Return the rows that are left if these rights are given up; raise UnknownName."""
    check_names(wall_rights(rights, wall), names)
    return tuple([row for owner, row in owned_left(rights, today, known, wall, names)])


def sets_to_end(rights, today, known, wall):
    """Return all minimal sets of names whose rights have to be given up so that the wall stands."""
    group, question, m = wall
    names = wall_names(rights, wall)
    return minimal_sets(names, lambda some: stands(rows_left(rights, today, known, wall, some), question, m))


def fewest_to_end(rights, today, known, wall):
    """Return the smallest number of rights that have to be given up so that the wall stands, or None."""
    return min([len(names) for names in sets_to_end(rights, today, known, wall)], default=None)
