"""The kind function of world steps."""

from askrights.kinds import is_name, is_pair
from askrights.rightkinds import are_accounts, are_ascending, are_names, is_step, is_tuple_of
from askrights.walls import wall_has_form


def is_opening(thing):
    """Return whether the value is what stands behind the word of a step that opens an archive."""
    return is_pair(thing) and is_name(thing[0]) and are_accounts(thing[1])


def is_splitting(thing):
    """Return whether the value is what stands behind the word of a step that splits an archive."""
    if not is_tuple_of(4, thing):
        return False
    archive, accounts, left, right = thing
    return is_name(archive) and are_names(accounts) and are_ascending(accounts) and is_name(left) and is_name(right)


def is_walling(thing):
    """Return whether the value is what stands behind the word of a step that adds a wall."""
    return is_tuple_of(4, thing) and is_name(thing[0]) and wall_has_form(thing[1:])


def is_world_step(thing):
    """Return whether the value is a world step."""
    if is_step(thing):
        return True
    if not isinstance(thing, tuple) or thing == ():
        return False
    word, rest = thing[0], thing[1:]
    if word == "open":
        return is_opening(rest)
    if word == "merge":
        return is_tuple_of(3, rest) and are_names(rest)
    if word == "split":
        return is_splitting(rest)
    if word == "wall":
        return is_walling(rest)
    return word == "unwall" and is_tuple_of(1, rest) and is_name(rest[0])
