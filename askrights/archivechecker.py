"""The checker of archives."""

from askrights.archiveforms import archive_form, serves
from askrights.bases import basis_of
from askrights.errors import InvalidPaper
from askrights.rightkinds import are_accounts, is_archive


def check_rights(accounts, today, rights):
    """Raise InvalidPaper for the first right that the archive cannot have."""
    for at, (name, right) in enumerate(rights):
        if at > 0 and name <= rights[at - 1][0]:
            raise InvalidPaper("name", at)
        if any([account not in accounts for account, weight in right[1]]):
            raise InvalidPaper("account", at)
        if right[3] < today:
            raise InvalidPaper("last", at)


def check_kept(accounts, today, rows):
    """Raise InvalidPaper if a row has a cell that cannot be kept, or if the rows are not their own basis."""
    for at, row in enumerate(rows):
        if any([account not in accounts or day >= today for (account, day), weight in row]):
            raise InvalidPaper("cell", at)
    if basis_of(rows) != rows:
        raise InvalidPaper("basis", -1)


def lets_archive(thing):
    """Return the number of kept rows if the value is an archive; raise InvalidPaper otherwise."""
    if not is_archive(thing):
        raise InvalidPaper("shape", -1)
    accounts, today, rights, kept, current = thing
    if not are_accounts(accounts):
        raise InvalidPaper("accounts", -1)
    check_rights(accounts, today, rights)
    if tuple([name for name, value in current]) != accounts:
        raise InvalidPaper("current", -1)
    check_kept(accounts, today, tuple([row for row, value in kept]))
    form = archive_form(thing)
    for at, (name, right) in enumerate(rights):
        if not serves(form, right, today):
            raise InvalidPaper("lost", at)
    return len(kept)
