"""Kind functions of rights, steps and archives: each accepts any value and returns True or False."""

from askrights.kinds import is_integer, is_name, is_number, is_pair, is_row


def is_tuple_of(many, thing):
    """Return whether the value is a tuple of this many items."""
    return isinstance(thing, tuple) and len(thing) == many


def are_ascending(items):
    """Return whether each item is greater than the one before it."""
    return all([one < other for one, other in zip(items, items[1:])])


def are_names(thing):
    """Return whether the value is a tuple of names, in any order."""
    return isinstance(thing, tuple) and all([is_name(item) for item in thing])


def are_accounts(thing):
    """Return whether the value is an ascending nonempty tuple of names."""
    return are_names(thing) and thing != () and are_ascending(thing)


def is_named_integer(thing):
    """Return whether the value is a pair of a name and an integer."""
    return is_pair(thing) and is_name(thing[0]) and is_integer(thing[1])


def are_named_integers(thing):
    """Return whether the value is a tuple of pairs of a name and an integer, in any order."""
    return isinstance(thing, tuple) and all([is_named_integer(item) for item in thing])


def are_weights(thing):
    """Return whether the value can be the weights of a right."""
    if not are_named_integers(thing) or thing == ():
        return False
    return all([weight != 0 for account, weight in thing]) and are_ascending([account for account, weight in thing])


def are_days_in_order(first, last):
    """Return whether both values are days, and the first one is at most the last one."""
    return is_number(first) and is_number(last) and first <= last


def is_right_kind(thing):
    """Return whether the value can be the kind of a right."""
    if is_tuple_of(3, thing):
        return thing[0] == "period" and are_days_in_order(thing[1], thing[2])
    if not is_pair(thing) or not is_number(thing[1]):
        return False
    return thing[0] == "total" or (thing[0] == "window" and thing[1] >= 1)


def is_right(thing):
    """Return whether the value is a right."""
    if not is_tuple_of(5, thing):
        return False
    person, weights, first, last, kind = thing
    return is_name(person) and are_weights(weights) and are_days_in_order(first, last) and is_right_kind(kind)


def is_halving(thing):
    """Return whether the value is what stands behind the word of a step that halves a right."""
    if not is_tuple_of(4, thing):
        return False
    name, accounts, left, right = thing
    return is_name(name) and are_accounts(accounts) and is_name(left) and is_name(right)


def is_named_right(thing):
    """Return whether the value is a pair of a name and a right."""
    return is_pair(thing) and is_name(thing[0]) and is_right(thing[1])


def is_step(thing):
    """Return whether the value is a step."""
    if not isinstance(thing, tuple) or thing == ():
        return False
    word, rest = thing[0], thing[1:]
    if word == "enter":
        return is_named_integer(rest)
    if word == "correct":
        return is_tuple_of(3, rest) and is_name(rest[0]) and is_number(rest[1]) and is_integer(rest[2])
    if word == "evening":
        return rest == ()
    if word == "grant":
        return is_named_right(rest)
    if word == "end":
        return is_tuple_of(1, rest) and is_name(rest[0])
    return word == "halve" and is_halving(rest)


def are_kept(thing):
    """Return whether the value is a tuple of pairs of a row and an integer."""
    if not isinstance(thing, tuple):
        return False
    return all([is_pair(item) and is_row(item[0]) and is_integer(item[1]) for item in thing])


def is_archive(thing):
    """Return whether the value has the shape of an archive."""
    if not is_tuple_of(5, thing):
        return False
    accounts, today, rights, kept, current = thing
    if not are_names(accounts) or not is_number(today) or not isinstance(rights, tuple):
        return False
    return all([is_named_right(item) for item in rights]) and are_kept(kept) and are_named_integers(current)
