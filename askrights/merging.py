"""Merging two archives into one, and splitting one archive into two."""

from askrights.errors import InvalidStep


def have_common(items, others):
    """Return whether an item is among the others."""
    return any([item in others for item in items])


def merge_bar(one, other):
    """Return the word that bars merging the two archives, or None."""
    if one[1] != other[1]:
        return "day"
    if have_common(one[0], other[0]):
        return "account"
    if have_common([name for name, right in one[2]], [name for name, right in other[2]]):
        return "name"
    return None


def merged(one, other):
    """Return the merged archive; raise InvalidStep if merging is barred."""
    reason = merge_bar(one, other)
    if reason is not None:
        raise InvalidStep(("merge", one, other), reason)
    accounts, rights, kept, current = [tuple(sorted(one[at] + other[at])) for at in (0, 2, 3, 4)]
    return (accounts, one[1], rights, kept, current)


def right_accounts(right):
    """Return the accounts on which the right has weights."""
    return [account for account, weight in right[1]]


def row_accounts(row):
    """Return the accounts of the row's cells."""
    return [account for (account, day), weight in row]


def is_divided(items, side):
    """Return whether some of the items are on the side and others are not."""
    return have_common(items, side) and any([item not in side for item in items])


def split_bar(archive, accounts):
    """Return the word that bars splitting the archive by these accounts, or None."""
    if any([account not in archive[0] for account in accounts]):
        return "account"
    if accounts == () or accounts == archive[0]:
        return "side"
    if any([is_divided(right_accounts(right), accounts) for name, right in archive[2]]):
        return "right"
    if any([is_divided(row_accounts(row), accounts) for row, value in archive[3]]):
        return "kept"
    return None


def part_with(archive, side):
    """Return the archive of the accounts on the side; no right and no kept row is divided."""
    accounts, today, rights, kept, current = archive
    return (
        tuple([account for account in accounts if account in side]),
        today,
        tuple([(name, right) for name, right in rights if have_common(right_accounts(right), side)]),
        tuple([(row, value) for row, value in kept if have_common(row_accounts(row), side)]),
        tuple([(account, value) for account, value in current if account in side]),
    )


def split_archive(archive, accounts):
    """Return the left archive with these accounts and the right one with the others; raise InvalidStep if barred."""
    reason = split_bar(archive, accounts)
    if reason is not None:
        raise InvalidStep(("split", archive, accounts), reason)
    others = [account for account in archive[0] if account not in accounts]
    return (part_with(archive, accounts), part_with(archive, others))
