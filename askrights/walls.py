"""Walls: questions that a group must never know."""

from askrights.histories import archives_of, shown_in
from askrights.kinds import is_number, is_row
from askrights.knowing import rows_shown, rows_to_come
from askrights.moduli import modulus_of
from askrights.rightkinds import are_accounts, is_tuple_of


def wall_has_form(thing):
    """Return whether the value is a wall."""
    if not is_tuple_of(3, thing):
        return False
    group, question, m = thing
    # A group has the form of the accounts of an archive: an ascending nonempty tuple of names.
    return are_accounts(group) and is_row(question) and is_number(m) and m != 1


def hides(modulus, m):
    """Return whether a wall stands whose question has this modulus."""
    return modulus != 0 and (m == 0 or modulus % m != 0)


def stands(rows, question, m):
    """Return whether a wall with this question and m stands, given the rows."""
    return hides(modulus_of(rows, question), m)


def is_standing(wall, shown, rights, today):
    """Return whether the wall stands, given the shown answers and the questions of the rights from today on."""
    group, question, m = wall
    return stands(rows_shown(shown, group) + rows_to_come(rights, today, group), question, m)


def first_falling(walls, shown, rights, today):
    """Return the name of the first of the walls (name, wall) that falls, or None."""
    for name, wall in walls:
        if not is_standing(wall, shown, rights, today):
            return name
    return None


def first_fall(history, walls, *, request=None):
    """Return the name of the first wall that falls at the end of the history, or None."""
    last = archives_of(history)[-1]
    rights = last[2] if request is None else (*last[2], ("request", request))
    return first_falling(walls, shown_in(history), rights, last[1])
