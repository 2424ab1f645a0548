"""[68] to [70], [8] (G7): logs, equality, undoing, several steps as one operation, counts, replaying."""

import copy
import random
import unittest

from askrights.errors import AskError, ArchiveError, InvalidStep, NothingToUndo
from askrights.replaying import is_log, replayed
from askrights.worlds import World
from tests.helpers import ANY_VALUES, both_ways
from tests.righthelpers import mutants
from tests.test_worlds import A_ROW, GRANT, MAIN, SIDE, STEPS, SUM_RIGHT, WALL, plain_world_step, snapshot, world_of
from tests.worldhelpers import METHODS, random_log


class Equality(unittest.TestCase):
    def same(self, one, other, wanted):
        """== and !=, both ways round, also within a list and a tuple."""
        for left, right in ((one, other), (other, one), ([one], [other]), ((1, [one]), (1, [other]))):
            self.assertIs(left == right, wanted)
            self.assertIs(left != right, not wanted)

    def test_worlds(self):
        self.same(World(), World(), True)
        self.same(world_of(MAIN), world_of(MAIN), True)
        self.same(world_of(MAIN), World(), False)
        self.same(world_of(MAIN, SIDE), world_of(SIDE, MAIN), False)
        self.same(world_of(MAIN, ("enter", "a", 0)), world_of(MAIN), False)
        self.same(world_of(MAIN, ("enter", "a", 1)), world_of(MAIN, ("enter", "a", 2)), False)
        self.same(world_of(MAIN, ("enter", "a", 10 ** 59)), world_of(MAIN, ("enter", "a", 10 ** 59)), True)

    def test_a_world_equals_itself_and_counts_do_not_matter(self):
        world = world_of(MAIN, GRANT)
        self.same(world, world, True)
        other = world_of(MAIN, GRANT, ("evening",))
        other.undo()
        self.assertRaises(InvalidStep, other.go, MAIN)
        self.assertNotEqual(world.counts(), other.counts())
        self.same(world, other, True)

    def test_other_values(self):
        for world in (World(), world_of(MAIN)):
            for thing in ANY_VALUES + [world.log(), list(world.log()), str(world), len(world), object(), world.counts(), [world],
                                       (world,), [], (), 0, "-", False, None, True]:
                self.assertIs(world == thing, False)
                self.assertIs(world != thing, True)
                self.assertIs(thing == world, False)
                self.assertIs([world] == [thing], False)

    def test_true_is_no_step_of_1(self):
        self.assertRaises(InvalidStep, world_of, MAIN, ("enter", "a", True))
        self.assertRaises(InvalidStep, world_of, MAIN, ("evening",), ("correct", "a", False, 1))


class Logs(unittest.TestCase):
    def test_barred_steps_are_not_in_the_log(self):
        world = World()
        world.go(MAIN)
        self.assertRaises(InvalidStep, world.go, MAIN)
        self.assertRaises(InvalidStep, world.go, None)
        world.evening()
        self.assertEqual((world.log(), len(world), str(world)), ((MAIN, ("evening",)), 2, "open main a,b / evening"))

    def test_each_method_logs_its_step(self):
        for seed in range(20):
            log = random_log(seed)
            one, other = World(), World()
            for step in log:
                getattr(one, METHODS[step[0]])(*step[1:])
                other.go(step)
            self.assertEqual((one.log(), other.log()), (log, log))
            self.assertEqual(one, other)
            self.assertEqual(one.counts(), (len(log), len(log)))
            self.assertEqual(len(one), len(log))

    def test_a_log_belongs_to_the_caller(self):
        world = world_of(MAIN)
        log = world.log()
        world.evening()
        self.assertEqual((log, type(log)), ((MAIN,), tuple))

    def test_steps_of_a_list_are_copied(self):
        steps = [MAIN, ("evening",)]
        world = World()
        world.do_all(steps)
        steps.append(GRANT)
        steps[0] = None
        self.assertEqual(world.log(), (MAIN, ("evening",)))


class Undo(unittest.TestCase):
    def test_example(self):
        w = World()
        many = w.do_all([("open", "main", ("a",)), ("enter", "a", -4)])
        before = str(w)
        removed = w.undo()
        self.assertEqual([many, before, removed, len(w), w.counts()],
                         [2, "open main a / enter a -4", ("enter", "a", -4), 1, (2, 2)])

    def test_nothing_to_undo(self):
        for world in (World(), world_of(MAIN)):
            while len(world):
                world.undo()
            for error in (NothingToUndo, ArchiveError, AskError, ValueError):
                with self.assertRaises(error) as caught:
                    world.undo()
                self.assertEqual((caught.exception.steps, type(caught.exception.steps)), (0, int))
            self.assertEqual(world, World())
            self.assertEqual(world.counts()[0], world.counts()[1])

    def test_each_step_is_undone(self):
        for seed in range(40):
            log = random_log(seed)
            world, states = World(), []
            for step in log:
                states.append(snapshot(world))
                world.go(step)
            # Each state is reached again, and the step can be done again from there.
            for at in range(len(log) - 1, -1, -1):
                self.assertEqual(world.undo(), log[at])
                self.assertEqual(snapshot(world), states[at])
                self.assertEqual(world, replayed(log[:at]))
            for step in log:
                world.go(step)
            self.assertEqual(snapshot(world), snapshot(replayed(log)))

    def test_other_steps_after_an_undo(self):
        world = world_of(MAIN, GRANT, ("enter", "a", 5), ("evening",))
        world.undo()
        world.undo()
        world.enter_amount("b", 7)
        self.assertEqual(world.evening(), (("r", "ann", ((("a", 0), 1), (("b", 0), 1)), 7),))
        self.assertEqual(world, world_of(MAIN, GRANT, ("enter", "b", 7), ("evening",)))


class DoAll(unittest.TestCase):
    def test_all(self):
        for kind in (list, tuple):
            world = World()
            steps = kind([MAIN, GRANT, ("evening",)])
            self.assertEqual(world.do_all(steps), 3)
            self.assertEqual((world.log(), world.counts()), (tuple(steps), (1, 1)))
            self.assertEqual(world.do_all(kind([])), 0)
            self.assertEqual(world.do_all(steps=kind([("evening",)]), keep=True), 1)
            self.assertEqual(world.do_all(kind(), keep=False), 0)
            self.assertEqual((len(world), world.counts()), (4, (4, 4)))

    def test_keep_is_keyword_only(self):
        with self.assertRaises(TypeError):
            World().do_all([], True)

    def test_barred(self):
        steps = [GRANT, ("enter", "a", 5), MAIN, ("evening",)]
        for arguments, kept in (({}, 0), ({"keep": False}, 0), ({"keep": True}, 2)):
            world = world_of(MAIN)
            before = snapshot(world)
            given = copy.deepcopy(steps)
            with self.assertRaises(InvalidStep) as caught:
                world.do_all(steps, **arguments)
            self.assertEqual((caught.exception.step, caught.exception.reason), (MAIN, "archive"))
            self.assertEqual(steps, given)
            self.assertEqual(world.log(), (MAIN,) + tuple(steps[:kept]))
            self.assertEqual(world.counts(), (2, 2))
            if kept == 0:
                self.assertEqual(snapshot(world), before)
            self.assertEqual(snapshot(world), snapshot(world_of(*world.log())))
            # It goes on from there.
            world.do_all([("evening",)])
            self.assertEqual(world, world_of(MAIN, *steps[:kept], ("evening",)))

    def test_any_values(self):
        for thing in ANY_VALUES + [World(), [MAIN]]:
            for keep in (False, True):
                world = World()
                with self.assertRaises(InvalidStep) as caught:
                    world.do_all([MAIN, thing], keep=keep)
                self.assertIs(caught.exception.step, thing)
                self.assertEqual((caught.exception.reason, len(world)), ("shape", 1 if keep else 0))

    def test_the_first_is_barred(self):
        for keep in (False, True):
            world = world_of(MAIN)
            self.assertRaises(InvalidStep, world.do_all, (MAIN, ("evening",)), keep=keep)
            self.assertEqual(world.log(), (MAIN,))

    def test_random_logs(self):
        for seed in range(30):
            log = random_log(seed)
            source = random.Random(seed)
            at = source.randint(0, len(log))
            world = World()
            self.assertEqual(world.do_all(log[:at]), at)
            before = snapshot(world)
            self.assertRaises(InvalidStep, world.do_all, log[at:] + (("unwall", "none"),))
            self.assertEqual(snapshot(world), before)
            self.assertRaises(InvalidStep, world.do_all, log[at:] + (("unwall", "none"),), keep=True)
            self.assertEqual(snapshot(world), snapshot(replayed(log)))
            self.assertEqual(world.counts(), (3, 3))


class Counts(unittest.TestCase):
    def test_counts(self):
        world = World()
        self.assertEqual(world.counts(), (0, 0))
        world.open_archive("main", ("a", "b"))
        self.assertEqual(world.counts(), (1, 1))
        calls = [lambda: world.open_archive("main", ("a",)), lambda: world.enter_amount("x", 1), lambda: world.correct_cell("a", 0, 1),
                 lambda: world.grant_right("r", ("ann", (("x", 1),), 0, 0, ("total", 0))), lambda: world.end_right("x"),
                 lambda: world.halve_right("x", ("a",), "p", "q"), lambda: world.merge_archives("x", "y", "z"),
                 lambda: world.split_into("x", ("a",), "p", "q"), lambda: world.wall_off("w", ("ann",), (), 0),
                 lambda: world.take_down("w"), lambda: world.go(None), lambda: world.do_all([None])]
        for many, call in enumerate(calls, 2):
            self.assertRaises(InvalidStep, call)
            self.assertEqual(world.counts(), (many, many))
        world.undo()
        self.assertEqual(world.counts(), (14, 14))
        self.assertRaises(NothingToUndo, world.undo)
        world.evening()
        self.assertEqual(world.counts(), (16, 16))
        self.assertIs(type(world.counts()), tuple)


class Replaying(unittest.TestCase):
    def test_example(self):
        log = (("open", "main", ("a",)), ("evening",))
        self.assertEqual([is_log(log), is_log((("wall", "w", ("ann",), A_ROW, 1),)), replayed(log).day_now()], [True, False, 1])

    def test_is_log(self):
        self.assertIs(both_ways(self, is_log, thing=()), True)
        self.assertIs(both_ways(self, is_log, thing=STEPS), True)
        self.assertIs(both_ways(self, is_log, thing=(MAIN, MAIN)), True)
        self.assertIs(both_ways(self, is_log, thing=(("enter", "zz", -1),) * 3), True)
        for thing in [thing for thing in ANY_VALUES if thing != ()] + [list(STEPS), STEPS + (None,), (None,), MAIN, [MAIN], (list(MAIN),)]:
            self.assertIs(both_ways(self, is_log, thing=thing), False, thing)
        self.assertIs(is_log(World()), False)
        self.assertIs(is_log((World(),)), False)
        self.assertIs(is_log((MAIN, World())), False)

    def test_changed_logs(self):
        for thing in mutants((MAIN, GRANT, WALL)):
            wanted = isinstance(thing, tuple) and all(plain_world_step(step) for step in thing)
            self.assertIs(is_log(thing), wanted, thing)

    def test_barred(self):
        for log, step, reason in (((MAIN, MAIN), MAIN, "archive"), ((GRANT,), GRANT, "account"), ((MAIN, GRANT, ("end", "s")), ("end", "s"), "name")):
            for call in (lambda: replayed(log), lambda: replayed(log=log)):
                with self.assertRaises(InvalidStep) as caught:
                    call()
                self.assertEqual((caught.exception.step, caught.exception.reason), (step, reason))

    def test_replayed_worlds_and_their_beginnings(self):
        for seed in range(40):
            log = random_log(seed)
            self.assertTrue(is_log(log))
            world = World()
            for step in log:
                world.go(step)
            again = replayed(world.log())
            self.assertIs(type(again), World)
            self.assertEqual(again, world)
            self.assertEqual(snapshot(again), snapshot(world))
            for at in range(0, len(log) + 1, 5):
                self.assertEqual(replayed(log[:at]).log(), log[:at])
                self.assertEqual(replayed(log[:at]) == world, at == len(log))

    def test_replayed_worlds_are_apart(self):
        one, other = replayed((MAIN,)), replayed((MAIN,))
        one.grant_right("r", SUM_RIGHT)
        self.assertEqual((len(one), len(other), other.right_names()), (2, 1, ()))


if __name__ == "__main__":
    unittest.main()
