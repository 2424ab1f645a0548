"""Archives: the first one of some accounts, and the rows of an archive with their values."""


def no_entries(accounts):
    """Return what current is before the first entry of a day."""
    return tuple([(account, 0) for account in accounts])


def first_archive(accounts, *, today=0):
    """Return the archive with these accounts and this day, without rights and kept rows."""
    return (accounts, today, (), (), no_entries(accounts))


def archive_rows(archive):
    """Return the rows of the archive: those that it has kept, and one for each account on today."""
    accounts, today, rights, kept, current = archive
    return tuple([row for row, value in kept] + [(((account, today), 1),) for account in accounts])


def archive_values(archive):
    """Return the values of the rows of the archive, in their order."""
    return tuple([value for row, value in archive[3]] + [value for account, value in archive[4]])
