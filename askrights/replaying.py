"""Logs of worlds, and worlds that are replayed from them."""

from askrights.worldkinds import is_world_step
from askrights.worlds import World


def is_log(thing):
    """Return whether the value is a tuple of world steps."""
    return isinstance(thing, tuple) and all([is_world_step(item) for item in thing])


def replayed(log):
    """Return a new world after all steps of the log; raise InvalidStep for the first barred one."""
    world = World()
    world.do_all(log)
    return world
