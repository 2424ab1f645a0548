"""Steps: what bars them, and the archive after them."""

from askrights.errors import InvalidStep
from askrights.evenings import after_evening
from askrights.rightparts import halves_of
from askrights.stepbars import correct_bar, grant_bar, halve_bar, has_accounts, has_name, named_right


def barred_by(archive, step):
    """Return the word that bars the step, or None."""
    word = step[0]
    if word == "enter":
        return None if has_accounts(archive, [step[1]]) else "account"
    if word == "correct":
        return correct_bar(archive, step[1], step[2])
    if word == "grant":
        return grant_bar(archive, step[1], step[2])
    if word == "end":
        return None if has_name(archive, step[1]) else "name"
    if word == "halve":
        return halve_bar(archive, step[1], step[2], step[3:])
    return None


def entered(archive, account, amount):
    """Return the archive with the amount added to today's integer of the account."""
    accounts, today, rights, kept, current = archive
    sums = [(other, value + amount if other == account else value) for other, value in current]
    return (accounts, today, rights, kept, tuple(sums))


def corrected(archive, cell, difference):
    """Return the archive with the kept values as if the cell had always been greater by the difference."""
    accounts, today, rights, kept, current = archive
    values = []
    for row, value in kept:
        weights = {other: weight for other, weight in row}
        values.append((row, value + weights.get(cell, 0) * difference))
    return (accounts, today, rights, tuple(values), current)


def with_rights(archive, ended, added):
    """Return the archive without the rights with the ended names and with the added pairs (name, right)."""
    accounts, today, rights, kept, current = archive
    remaining = [(name, right) for name, right in rights if name not in ended]
    return (accounts, today, tuple(sorted(remaining + added)), kept, current)


def halved(archive, name, accounts, fresh_names):
    """Return the archive with the two halves in place of the right."""
    halves = halves_of(named_right(archive, name), accounts)
    return with_rights(archive, [name], list(zip(fresh_names, halves)))


def after_step(archive, step):
    """Return the archive after a step that is not barred."""
    word = step[0]
    if word == "enter":
        return entered(archive, step[1], step[2])
    if word == "correct":
        return corrected(archive, (step[1], step[2]), step[3])
    if word == "grant":
        return with_rights(archive, [], [(step[1], step[2])])
    if word == "end":
        return with_rights(archive, [step[1]], [])
    if word == "halve":
        return halved(archive, step[1], step[2], step[3:])
    return after_evening(archive)


def done(archive, step):
    """Return the archive after the step; raise InvalidStep if it is barred."""
    reason = barred_by(archive, step)
    if reason is not None:
        raise InvalidStep(step, reason)
    return after_step(archive, step)
