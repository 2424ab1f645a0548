"""States of a world, and what can be read from them."""

from askrights.archiveforms import answer_by, archive_form
from askrights.merging import right_accounts, row_accounts
from askrights.rowsums import part_of
from askrights.stepbars import has_accounts, has_name
from askrights.walls import first_falling, is_standing


class State:
    """What a world is after some steps. A state is never changed: a step makes another one.

    archives and walls are dicts by name, data is a dict by cell, and shown is the tuple of the answers
    (day, name, person, question, value) that were shown.
    """

    def __init__(self, day, archives, walls, data, shown):
        self.day = day
        self.archives = archives
        self.walls = walls
        self.data = data
        self.shown = shown


def first_state():
    """Return the state of a new world."""
    return State(0, {}, {}, {}, ())


def with_archives(state, removed, added):
    """Return the state without the archives with the removed names and with the added ones, a dict by name."""
    archives = {name: state.archives[name] for name in state.archives if name not in removed}
    return State(state.day, {**archives, **added}, state.walls, state.data, state.shown)


def with_walls(state, walls):
    """Return the state with these walls."""
    return State(state.day, state.archives, walls, state.data, state.shown)


def with_difference(state, cell, difference):
    """Return the state with complete data in which the cell is greater by the difference."""
    data = {**state.data, cell: state.data.get(cell, 0) + difference}
    return State(state.day, state.archives, state.walls, data, state.shown)


def home_of(state, accounts):
    """Return the name of the archive that has all these accounts, or None."""
    for name in state.archives:
        if has_accounts(state.archives[name], accounts):
            return name
    return None


def holder_of(state, right_name):
    """Return the name of the archive that has the right with this name, or None."""
    for name in state.archives:
        if has_name(state.archives[name], right_name):
            return name
    return None


def home_for(state, step):
    """Return the name of the archive on which a step of one archive has its effect, or None."""
    if step[0] in ("enter", "correct"):
        return home_of(state, [step[1]])
    if step[0] == "grant":
        return home_of(state, right_accounts(step[2]))
    return holder_of(state, step[1])


def all_rights(state):
    """Return the rights of all archives, ascending by name."""
    return tuple(sorted([named for name in state.archives for named in state.archives[name][2]]))


def named_walls(state):
    """Return the ascending tuple of pairs (name, wall)."""
    return tuple([(name, state.walls[name]) for name in sorted(state.walls)])


def complete_data(state):
    """Return the complete data."""
    return tuple([(cell, state.data[cell]) for cell in sorted(state.data) if state.data[cell] != 0])


def fallen_wall(state):
    """Return the name of the first wall that does not stand, or None."""
    return first_falling(named_walls(state), state.shown, all_rights(state), state.day)


def lets_stand(state, wall):
    """Return whether the wall stands."""
    return is_standing(wall, state.shown, all_rights(state), state.day)


def answer_in(state, question):
    """Return the answer of the question, or None if it cannot be answered."""
    if any([home_of(state, [account]) is None for account in row_accounts(question)]):
        return None
    answer = 0
    for name in state.archives:
        archive = state.archives[name]
        part = answer_by(archive_form(archive), part_of(question, accounts=archive[0]))
        if part is None:
            return None
        answer += part
    return answer
