"""The words that bar a step, each kind of step by itself. None means that nothing bars it."""

from askrights.archiveforms import archive_form, serves
from askrights.rightparts import halves_of


def has_name(archive, name):
    """Return whether the archive has a right with this name."""
    return any([name == other for other, right in archive[2]])


def named_right(archive, name):
    """Return the right with this name, or None."""
    for other, right in archive[2]:
        if other == name:
            return right
    return None


def has_accounts(archive, accounts):
    """Return whether all these accounts are accounts of the archive."""
    return all([account in archive[0] for account in accounts])


def correct_bar(archive, account, day):
    """Return the word that bars a correction."""
    if not has_accounts(archive, [account]):
        return "account"
    return "day" if day >= archive[1] else None


def grant_bar(archive, name, right):
    """Return the word that bars granting the right under this name."""
    if has_name(archive, name):
        return "name"
    if not has_accounts(archive, [account for account, weight in right[1]]):
        return "account"
    if right[3] < archive[1]:
        return "over"
    return None if serves(archive_form(archive), right, archive[1]) else "lost"


def halve_bar(archive, name, accounts, fresh_names):
    """Return the word that bars halving the right with this name; the halves are to have the two fresh names."""
    whole = named_right(archive, name)
    if whole is None:
        return "name"
    if not has_accounts(archive, accounts):
        return "account"
    halves = halves_of(whole, accounts)
    if any([half[1] == () for half in halves]):
        return "side"
    if fresh_names[0] == fresh_names[1] or any([has_name(archive, fresh) for fresh in fresh_names]):
        return "fresh"
    form = archive_form(archive)
    return None if all([serves(form, half, archive[1]) for half in halves]) else "lost"
