"""The words that bar a world step, each kind of step by itself. None means that nothing bars it."""

from askrights.merging import split_bar
from askrights.stepbars import grant_bar, halve_bar
from askrights.worldkinds import is_world_step
from askrights.worldstates import fallen_wall, holder_of, home_for, home_of, lets_stand
from askrights.worldsteps import state_after


def account_bar(state, step):
    """Return the word that bars an entry or a correction."""
    if home_for(state, step) is None:
        return "account"
    return "day" if step[0] == "correct" and step[2] >= state.day else None


def granting_bar(state, step):
    """Return the word that bars granting a right, walls left aside."""
    if holder_of(state, step[1]) is not None:
        return "name"
    home = home_for(state, step)
    return "account" if home is None else grant_bar(state.archives[home], step[1], step[2])


def end_bar(state, step):
    """Return the word that bars ending a right."""
    return "name" if holder_of(state, step[1]) is None else None


def halving_bar(state, step):
    """Return the word that bars halving a right, walls left aside."""
    word, name, accounts, left, right = step
    home = holder_of(state, name)
    if home is None:
        return "name"
    reason = halve_bar(state.archives[home], name, accounts, (left, right))
    # The archive knows its own rights only, and what is lost comes after all names that are not fresh.
    if reason in ("account", "side"):
        return reason
    return "fresh" if holder_of(state, left) is not None or holder_of(state, right) is not None else reason


def opening_bar(state, step):
    """Return the word that bars opening an archive."""
    if step[1] in state.archives:
        return "archive"
    return "account" if any([home_of(state, [account]) is not None for account in step[2]]) else None


def merging_bar(state, step):
    """Return the word that bars merging two archives."""
    word, one, other, fresh = step
    if one not in state.archives or other not in state.archives or one == other:
        return "archive"
    return "fresh" if fresh in state.archives and fresh not in (one, other) else None


def splitting_bar(state, step):
    """Return the word that bars splitting an archive."""
    word, archive, accounts, left, right = step
    if archive not in state.archives:
        return "archive"
    reason = split_bar(state.archives[archive], accounts)
    if reason is not None:
        return reason
    taken = [name for name in state.archives if name != archive]
    return "fresh" if left == right or left in taken or right in taken else None


def walling_bar(state, step):
    """Return the word that bars adding a wall."""
    if step[1] in state.walls:
        return "name"
    return None if lets_stand(state, step[2:]) else "falls"


def unwalling_bar(state, step):
    """Return the word that bars removing a wall."""
    return None if step[1] in state.walls else "name"


def evening_bar(state, step):
    """Return None: an evening is never barred."""
    return None


BARS = {
    "open": opening_bar,
    "enter": account_bar,
    "correct": account_bar,
    "evening": evening_bar,
    "grant": granting_bar,
    "end": end_bar,
    "halve": halving_bar,
    "merge": merging_bar,
    "split": splitting_bar,
    "wall": walling_bar,
    "unwall": unwalling_bar,
}


def wall_felled(state, step):
    """Return the name of the first wall that would fall by granting or halving a right, or None."""
    if step[0] not in ("grant", "halve"):
        return None
    return fallen_wall(state_after(state, step))


def world_bar(state, step):
    """Return the word that bars the step, which may be any value, or None."""
    if not is_world_step(step):
        return "shape"
    bar = BARS[step[0]]
    reason = bar(state, step)
    if reason is None and wall_felled(state, step) is not None:
        return "wall"
    return reason
