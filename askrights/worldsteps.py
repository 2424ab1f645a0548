"""The effects of world steps that are not barred."""

from askrights.archives import first_archive
from askrights.evenings import after_evening, shown_by
from askrights.merging import merged, split_archive
from askrights.steps import after_step
from askrights.worldstates import State, home_for, with_archives, with_difference, with_walls


def after_world_evening(state):
    """Return the state after the evening of all archives."""
    shown = [answer for name in state.archives for answer in shown_by(state.archives[name])]
    shown_today = [(state.day, *answer) for answer in sorted(shown)]
    archives = {name: after_evening(state.archives[name]) for name in state.archives}
    return State(state.day + 1, archives, state.walls, state.data, (*state.shown, *shown_today))


def after_opening(state, archive, accounts):
    """Return the state with a new archive."""
    return with_archives(state, [], {archive: first_archive(accounts, today=state.day)})


def after_merge(state, one, other, fresh):
    """Return the state with one archive in place of two."""
    return with_archives(state, [one, other], {fresh: merged(state.archives[one], state.archives[other])})


def after_split(state, archive, accounts, fresh_names):
    """Return the state with two archives in place of one."""
    parts = split_archive(state.archives[archive], accounts)
    return with_archives(state, [archive], dict(zip(fresh_names, parts)))


def after_small_step(state, step):
    """Return the state after a step that changes one archive."""
    home = home_for(state, step)
    after = with_archives(state, [], {home: after_step(state.archives[home], step)})
    if step[0] == "enter":
        return with_difference(after, (step[1], state.day), step[2])
    if step[0] == "correct":
        return with_difference(after, (step[1], step[2]), step[3])
    return after


def state_after(state, step):
    """Return the state after the step."""
    word = step[0]
    if word == "evening":
        return after_world_evening(state)
    if word == "open":
        return after_opening(state, step[1], step[2])
    if word == "merge":
        return after_merge(state, step[1], step[2], step[3])
    if word == "split":
        return after_split(state, step[1], step[2], step[3:])
    if word == "wall":
        return with_walls(state, {**state.walls, step[1]: step[2:]})
    if word == "unwall":
        return with_walls(state, {name: state.walls[name] for name in state.walls if name != step[1]})
    return after_small_step(state, step)
