"""Histories: their archives, their complete data, and the answers that they showed."""

from askrights.archives import first_archive
from askrights.errors import InvalidStep
from askrights.evenings import shown_by
from askrights.rightkinds import is_step
from askrights.steps import done


def archives_of(history):
    """Return the first archive of the history and the one after each step; raise InvalidStep."""
    accounts, steps = history
    archives = [first_archive(accounts)]
    for step in steps:
        if not is_step(step):
            raise InvalidStep(step, "shape")
        archives.append(done(archives[-1], step))
    return tuple(archives)


def change_by(archive, step):
    """Return (cell, difference) if the step changes the complete data, else None."""
    if step[0] == "enter":
        return (step[1], archive[1]), step[2]
    if step[0] == "correct":
        return (step[1], step[2]), step[3]
    return None


def data_of(history):
    """Return the complete data of the history; raise InvalidStep."""
    sums = {}
    # zip leaves out the last archive, which no step follows.
    for archive, step in zip(archives_of(history), history[1]):
        change = change_by(archive, step)
        if change is not None:
            cell, difference = change
            sums[cell] = sums.get(cell, 0) + difference
    return tuple([(cell, sums[cell]) for cell in sorted(sums) if sums[cell] != 0])


def shown_in(history):
    """Return the answers that the evenings showed, as (day, name, person, question, value); raise InvalidStep."""
    shown = []
    for archive, step in zip(archives_of(history), history[1]):
        if step[0] == "evening":
            shown.extend([(archive[1], *answer) for answer in shown_by(archive)])
    return tuple(shown)
