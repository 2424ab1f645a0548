"""[62] to [67], [8]: worlds, the words that bar world steps, and queries."""

import copy
import random
import unittest

from askrights.archivechecker import lets_archive
from askrights.archives import first_archive
from askrights.costs import cost_of
from askrights.endings import least_endings
from askrights.errors import AskError, ArchiveError, InvalidStep, NotAnswerable, UnknownName
from askrights.giving import sets_to_end
from askrights.histories import archives_of, data_of, shown_in
from askrights.knowing import known_rows, knows
from askrights.shares import fair_shares
from askrights.worlds import World
from tests.helpers import ANY_VALUES, both_ways, plain_modulus
from tests.righthelpers import PERSONS, SIXTY, mutants, random_history
from tests.test_knowing import few_rows
from tests.test_rightkinds import plain_step
from tests.test_walls import plain_form
from tests.worldhelpers import METHODS, random_group, random_question, random_trial

SUM_RIGHT = ("ann", (("a", 1), ("b", 1)), 0, 1, ("total", 0))
SUM_ROW = ((("a", 0), 1), (("b", 0), 1))
A_ROW = ((("a", 0), 1),)
A_RIGHT = ("bob", (("a", 1),), 0, 0, ("total", 0))


def world_of(*steps):
    world = World()
    world.do_all(steps)
    return world


MAIN = ("open", "main", ("a", "b"))
SIDE = ("open", "side", ("c",))
GRANT = ("grant", "r", SUM_RIGHT)
WALL = ("wall", "w", ("bob",), A_ROW, 0)

STEPS = (MAIN, ("enter", "a", 5), ("correct", "a", 0, -2), ("evening",), GRANT, ("end", "r"), ("halve", "r", ("a",), "s", "t"),
         ("merge", "one", "two", "main"), ("split", "main", ("a",), "one", "two"), ("split", "main", (), "one", "two"), WALL,
         ("wall", "w", ("ann", "bob"), (), 2), ("unwall", "w"))


def names_rise(thing):
    return isinstance(thing, tuple) and all(is_plain_name(one) for one in thing) and list(thing) == sorted(set(thing))


def is_plain_name(thing):
    return isinstance(thing, str) and 1 <= len(thing) <= 8 and all("a" <= letter <= "z" for letter in thing)


def plain_world_step(thing):
    """Whether the value is a world step, by the words of [63]."""
    if plain_step(thing):
        return True
    if not isinstance(thing, tuple) or len(thing) == 0 or not isinstance(thing[0], str):
        return False
    word, rest = thing[0], thing[1:]
    if word == "open" and len(rest) == 2:
        return is_plain_name(rest[0]) and names_rise(rest[1]) and len(rest[1]) > 0
    if word == "merge" and len(rest) == 3:
        return all(is_plain_name(one) for one in rest)
    if word == "split" and len(rest) == 4:
        return all(is_plain_name(rest[k]) for k in (0, 2, 3)) and names_rise(rest[1])
    if word == "wall" and len(rest) == 4:
        return is_plain_name(rest[0]) and plain_form(rest[1:])
    return word == "unwall" and len(rest) == 1 and is_plain_name(rest[0])


def snapshot(world):
    """All that a world tells, counts left aside."""
    groups = [(person,) for person in PERSONS] + [PERSONS]
    return repr([world.log(), len(world), str(world), world.day_now(), world.archive_names(), world.right_names(),
                 [world.archive_named(name) for name in world.archive_names()], world.walls_now(), world.data_now(),
                 world.answers_shown(), [world.known_now(group) for group in groups],
                 [world.knows_now(group, SUM_ROW) for group in groups],
                 [world.stands_now(group, A_ROW, 2) for group in groups],
                 [world.cost_now(name) for name in world.archive_names()],
                 [world.shares_now(name) for name in world.archive_names()],
                 [world.endings_now(name, 1) for name in world.archive_names()]])


class Barred(unittest.TestCase):
    def barred(self, world, step, word):
        """The step is barred by the word, whichever way it is done, and changes nothing."""
        self.assertEqual(both_ways(self, world.bars_now, step=step), word)
        before = snapshot(world)
        calls = [lambda: world.go(step), lambda: world.go(step=step)]
        if isinstance(step, tuple) and step and isinstance(step[0], str) and step[0] in METHODS and len(step) > 1:
            calls.append(lambda: getattr(world, METHODS[step[0]])(*step[1:]))
        for call in calls:
            if word == "shape" and call not in calls[:2]:
                continue
            with self.assertRaises(InvalidStep) as caught:
                call()
            self.assertEqual((caught.exception.step, caught.exception.reason), (step, word))
            self.assertIsInstance(caught.exception, ArchiveError)
            self.assertIsInstance(caught.exception, AskError)
        self.assertEqual(snapshot(world), before)
        if word != "wall":
            self.assertIsNone(both_ways(self, world.falls_by, step=step))

    def free(self, world, step):
        self.assertIsNone(both_ways(self, world.bars_now, step=step))
        self.assertIsNone(world.falls_by(step))

    def test_shape(self):
        world = world_of(MAIN, GRANT)
        for step in ANY_VALUES + [[*MAIN], MAIN[:2], MAIN + (0,), ("open", "main", ()), ("open", "Main", ("c",)), None,
                                  ("open", "x", ("d", "c")), ("open", "x", ["c"]), ("merge", "main", "side"),
                                  ("merge", "a", "b", "C"), ("split", "main", ["a"], "x", "y"), ("evening", 1),
                                  ("split", "main", ("b", "a"), "x", "y"), ("split", "main", ("a",), "x"),
                                  ("wall", "w", ("ann",), A_ROW, 1), ("wall", "w", (), A_ROW, 0),
                                  ("wall", "w", ("ann",), A_ROW, True), ("wall", "w", ("ann",), A_ROW), ("unwall",),
                                  ("wall", "W", ("ann",), A_ROW, 0), ("unwall", "W"), ("unwall", "w", "w"), "evening",
                                  ("enter", "a", True), ("enter", "a"), ("correct", "a", -1, 0), ("unknown",), (MAIN,)]:
            self.barred(world, step, "shape")

    def test_beginnings_of_steps(self):
        for step in STEPS:
            for many in range(len(step)):
                self.assertEqual(world_of(MAIN).bars_now(step[:many]), "shape")

    def test_worlds_as_steps(self):
        for step in (World(), (World(),), (World(), "a"), ("enter", World(), 1), ("enter", "a", World()), [World()],
                     ("wall", "w", ("ann",), A_ROW, World()), ("open", "x", (World(),))):
            self.assertEqual(World().bars_now(step), "shape")
            self.assertIsNone(World().falls_by(step))

    def test_the_very_value_is_in_the_error(self):
        for step in ([], ["open"], World(), (None, []), ("enter", "zz", 1)):
            with self.assertRaises(InvalidStep) as caught:
                World().go(step)
            self.assertIs(caught.exception.step, step)

    def test_changed_steps(self):
        world, found = World(), {}
        for step in STEPS:
            self.assertTrue(plain_world_step(step))
            for thing in [step] + list(mutants(step)):
                shape = not plain_world_step(thing)
                self.assertIs(world.bars_now(thing) == "shape", shape, thing)
                found[shape] = found.get(shape, 0) + 1
        self.assertGreater(min(found.values()), 100)

    def test_open(self):
        world = world_of(MAIN, SIDE)
        self.barred(world, ("open", "main", ("d",)), "archive")
        self.barred(world, ("open", "x", ("a",)), "account")
        self.barred(world, ("open", "x", ("c", "d")), "account")
        self.barred(world, ("open", "main", ("a",)), "archive")
        self.free(world, ("open", "x", ("d", "e")))

    def test_enter_and_correct(self):
        world = world_of(MAIN, ("evening",))
        self.barred(world, ("enter", "c", 1), "account")
        self.barred(world, ("correct", "c", 0, 1), "account")
        self.barred(world, ("correct", "c", 9, 1), "account")
        self.barred(world, ("correct", "a", 1, 1), "day")
        self.barred(world, ("correct", "a", SIXTY, 1), "day")
        self.barred(World(), ("enter", "a", 1), "account")
        self.free(world, ("correct", "a", 0, SIXTY))
        self.free(world, ("enter", "a", -SIXTY))

    def test_days_before_an_archive_is_opened(self):
        world = world_of(("evening",), ("evening",), MAIN)
        self.free(world, ("correct", "a", 0, 3))
        self.barred(world, ("grant", "r", ("ann", (("a", 1),), 2, 2, ("total", 0))), "lost")
        world.correct_cell("a", 0, 3)
        self.assertEqual(world.data_now(), ((("a", 0), 3),))
        self.assertRaises(NotAnswerable, world.answer_now, A_ROW)

    def test_grant(self):
        world = world_of(MAIN, SIDE, GRANT, ("evening",))
        self.barred(world, ("grant", "r", ("ann", (("c", 1),), 1, 1, ("window", 1))), "name")
        self.barred(world, ("grant", "s", ("ann", (("d", 1),), 1, 1, ("window", 1))), "account")
        self.barred(world, ("grant", "s", ("ann", (("a", 1), ("c", 1)), 1, 1, ("window", 1))), "account")
        self.barred(world, ("grant", "s", ("ann", (("a", 1),), 0, 0, ("window", 1))), "over")
        self.barred(world, ("grant", "s", ("ann", (("a", 1),), 1, 1, ("total", 0))), "lost")
        self.free(world, ("grant", "s", ("ann", (("a", 2), ("b", 2)), 1, 1, ("total", 0))))
        # Several words: name, account, over, lost, wall.
        self.barred(world, ("grant", "r", ("ann", (("d", 1),), 0, 0, ("total", 0))), "name")
        self.barred(world, ("grant", "s", ("ann", (("d", 1),), 0, 0, ("total", 0))), "account")
        self.barred(world, ("grant", "s", ("ann", (("a", 1),), 0, 0, ("total", 0))), "over")

    def test_grant_and_walls(self):
        world = world_of(MAIN, ("wall", "v", ("ann", "bob"), SUM_ROW, 0), WALL)
        self.barred(world, ("grant", "s", A_RIGHT), "wall")
        self.assertEqual(both_ways(self, world.falls_by, step=("grant", "s", A_RIGHT)), "w")
        self.barred(world, ("grant", "s", SUM_RIGHT), "wall")
        self.assertEqual(world.falls_by(("grant", "s", SUM_RIGHT)), "v")
        self.assertIsNone(world.falls_by(None))
        self.free(world, ("grant", "s", ("ann",) + A_RIGHT[1:]))
        self.free(world, ("grant", "s", ("cy",) + SUM_RIGHT[1:]))
        # What can no longer be answered is lost, even if it would make a wall fall.
        world.evening()
        self.barred(world, ("grant", "s", ("bob", (("a", 1),), 1, 1, ("total", 0))), "lost")

    def test_walls_that_fall_together_with_what_is_known(self):
        # Ann knows a + b of day 0, and will be shown the sum of both days; bob asks for a - b of day 1.
        world = world_of(MAIN, GRANT, ("evening",), ("wall", "v", ("bob",), ((("a", 1), 1),), 0),
                         ("wall", "w", ("ann", "bob"), ((("a", 1), 1),), 0))
        step = ("grant", "s", ("bob", (("a", 1), ("b", -1)), 1, 1, ("window", 1)))
        self.barred(world, step, "wall")
        self.assertEqual(world.falls_by(step), "w")
        self.free(world, ("grant", "s", ("cy",) + step[2][1:]))
        self.free(world_of(*world.log(), ("end", "r")), step)
        self.free(world_of(*world.log(), ("unwall", "w")), step)

    def test_end(self):
        world = world_of(MAIN, SIDE, GRANT)
        self.barred(world, ("end", "x"), "name")
        self.free(world, ("end", "r"))
        self.barred(world_of(MAIN, GRANT, ("evening",), ("evening",)), ("end", "r"), "name")

    def test_halve(self):
        other = ("grant", "s", ("cy", (("c", 1),), 0, 9, ("window", 1)))
        world = world_of(MAIN, SIDE, GRANT, other)
        self.barred(world, ("halve", "x", ("a",), "p", "q"), "name")
        self.barred(world, ("halve", "r", ("a", "c"), "p", "q"), "account")
        self.barred(world, ("halve", "r", ("d",), "p", "q"), "account")
        self.barred(world, ("halve", "r", ("a", "b"), "p", "q"), "side")
        self.barred(world, ("halve", "s", ("c",), "p", "q"), "side")
        for left, right in (("p", "p"), ("r", "p"), ("p", "r"), ("s", "p"), ("p", "s"), ("s", "s")):
            self.barred(world, ("halve", "r", ("a",), left, right), "fresh")
        self.free(world, ("halve", "r", ("b",), "p", "q"))
        later = world_of(MAIN, SIDE, GRANT, other, ("evening",))
        self.barred(later, ("halve", "r", ("a",), "p", "q"), "lost")
        self.barred(later, ("halve", "r", ("a",), "p", "s"), "fresh")
        self.barred(later, ("halve", "r", ("a",), "s", "q"), "fresh")
        self.barred(later, ("halve", "r", ("a", "b"), "s", "s"), "side")
        self.barred(later, ("halve", "r", ("c",), "s", "s"), "account")
        self.barred(later, ("halve", "x", ("d",), "s", "s"), "name")

    def test_halve_and_walls(self):
        world = world_of(MAIN, GRANT, ("wall", "w", ("ann",), A_ROW, 0), ("wall", "v", ("bob",), A_ROW, 0))
        step = ("halve", "r", ("b",), "p", "q")
        self.barred(world, step, "wall")
        self.assertEqual(world.falls_by(step), "w")
        self.barred(world_of(*world.log(), ("evening",)), step, "lost")
        self.free(world_of(MAIN, GRANT, ("wall", "v", ("bob",), A_ROW, 0)), step)

    def test_merge(self):
        world = world_of(MAIN, SIDE, ("open", "more", ("d",)))
        for one, other in (("x", "main"), ("main", "x"), ("x", "y"), ("main", "main"), ("x", "x")):
            self.barred(world, ("merge", one, other, "more"), "archive")
        self.barred(world, ("merge", "main", "side", "more"), "fresh")
        for fresh in ("main", "side", "other"):
            self.free(world, ("merge", "main", "side", fresh))

    def test_split(self):
        world = world_of(("open", "main", ("a", "b", "d")), SIDE)
        self.barred(world, ("split", "x", ("a",), "p", "q"), "archive")
        self.barred(world, ("split", "main", ("c",), "p", "q"), "account")
        self.barred(world, ("split", "main", ("a", "c"), "p", "q"), "account")
        self.barred(world, ("split", "main", (), "p", "q"), "side")
        self.barred(world, ("split", "main", ("a", "b", "d"), "p", "q"), "side")
        for left, right in (("p", "p"), ("side", "p"), ("p", "side"), ("main", "main")):
            self.barred(world, ("split", "main", ("a",), left, right), "fresh")
        for left, right in (("p", "q"), ("main", "q"), ("p", "main")):
            self.free(world, ("split", "main", ("a",), left, right))
        bound = world_of(*world.log(), GRANT)
        self.barred(bound, ("split", "main", ("a",), "p", "p"), "right")
        self.barred(bound, ("split", "main", ("a", "d"), "p", "p"), "right")
        self.free(bound, ("split", "main", ("a", "b"), "p", "q"))
        self.barred(world_of(*bound.log(), ("evening",)), ("split", "main", ("a",), "p", "p"), "right")
        kept = world_of(*bound.log(), ("evening",), ("end", "r"))
        self.barred(kept, ("split", "main", ("a",), "p", "p"), "kept")
        kept.evening()
        self.barred(kept, ("split", "main", ("a",), "p", "p"), "fresh")
        self.barred(kept, ("split", "x", ("e",), "p", "p"), "archive")
        self.barred(kept, ("split", "main", ("a", "b", "d", "e"), "p", "p"), "account")

    def test_wall_and_unwall(self):
        world = world_of(MAIN, GRANT, WALL)
        self.barred(world, ("wall", "w", ("ann",), SUM_ROW, 0), "name")
        self.barred(world, ("wall", "x", ("ann",), SUM_ROW, 0), "falls")
        self.barred(world, ("wall", "x", ("ann", "bob"), SUM_ROW, 7), "falls")
        self.barred(world, ("wall", "x", ("cy",), (), 0), "falls")
        self.barred(world, ("unwall", "x"), "name")
        self.free(world, ("wall", "x", ("ann",), A_ROW, 0))
        self.free(world, ("wall", "x", ("bob",), SUM_ROW, 2))
        self.free(world, ("unwall", "w"))
        self.barred(World(), ("unwall", "w"), "name")


class Effects(unittest.TestCase):
    def test_a_new_world(self):
        world = World()
        self.assertEqual((world.day_now(), world.archive_names(), world.right_names(), world.walls_now(), world.data_now(),
                          world.answers_shown(), world.log(), len(world), str(world)), (0, (), (), (), (), (), (), 0, "-"))
        self.assertEqual((world.known_now(("ann",)), world.knows_now(("ann",), A_ROW)), ((), (0, 1)))
        self.assertEqual((world.answer_now(()), world.stands_now(("ann",), A_ROW, 0)), (0, True))
        self.assertEqual(world.givings_now(("ann",), A_ROW, 0), ((),))

    def test_examples(self):
        w = World()
        self.assertIsNone(w.open_archive("main", ("a", "b")))
        self.assertIsNone(w.grant_right("r", SUM_RIGHT))
        self.assertIsNone(w.enter_amount("a", 5))
        self.assertEqual(w.evening(), (("r", "ann", ((("a", 0), 1), (("b", 0), 1)), 5),))
        self.assertEqual([w.answer_now(SUM_ROW), w.known_now(("ann", "bob")) == (SUM_ROW,), w.stands_now(("ann",), A_ROW, 0)],
                         [5, True, True])
        w.correct_cell("b", 0, -2)
        self.assertEqual([w.archive_named("main")[3], w.data_now()],
                         [((((("a", 0), 1), (("b", 0), 1)), 3),), ((("a", 0), 5), (("b", 0), -2))])

    def test_example_of_a_barred_step(self):
        w = World()
        w.open_archive("main", ("a",))
        with self.assertRaises(InvalidStep) as caught:
            w.go(("correct", "a", 0, 2))
        self.assertEqual((caught.exception.step, caught.exception.reason), (("correct", "a", 0, 2), "day"))

    def test_example_of_walls(self):
        w = World()
        w.open_archive("main", ("a", "b"))
        w.wall_off("w", ("bob",), A_ROW, 0)
        s = ("grant", "s", ("bob", (("a", 1),), 0, 0, ("total", 0)))
        self.assertEqual([w.bars_now(s), w.falls_by(s), w.bars_now(("grant", "r", SUM_RIGHT))], ["wall", "w", None])
        self.assertEqual(w.walls_now(), (("w", (("bob",), A_ROW, 0)),))
        w.take_down("w")
        self.assertEqual((w.walls_now(), w.bars_now(s)), ((), None))

    def test_example_of_merging_and_splitting(self):
        w = World()
        w.open_archive("one", ("a",))
        w.open_archive("two", ("b",))
        w.merge_archives("two", "one", "all")
        w.grant_right("r", SUM_RIGHT)
        w.halve_right("r", ("b",), "rb", "ra")
        w.split_into("all", ("a",), "one", "all")
        self.assertEqual([w.archive_names(), w.right_names(), w.archive_named("all")[0]],
                         [("all", "one"), ("ra", "rb"), ("b",)])

    def test_example_of_knowledge(self):
        w = World()
        w.open_archive("main", ("a", "b"))
        w.grant_right("r", ("ann", (("a", 1), ("b", 3)), 0, 0, ("total", 0)))
        w.enter_amount("a", 2)
        w.enter_amount("b", 1)
        w.evening()
        self.assertEqual(w.knows_now(("ann",), A_ROW), (2, 3))

    def test_example_of_no_answer(self):
        w = world_of(MAIN, ("evening",))
        with self.assertRaises(NotAnswerable) as caught:
            w.answer_now(A_ROW)
        self.assertEqual(caught.exception.row, A_ROW)

    def test_example_of_costs(self):
        w = world_of(MAIN, GRANT)
        self.assertEqual([w.cost_now("main"), w.shares_now("main"), w.endings_now("main", 0), w.givings_now(("ann",), SUM_ROW, 0)],
                         [1, (("r", (1, 1)),), (("r",),), (("r",),)])

    def test_an_evening_without_archives(self):
        world = World()
        self.assertEqual((world.evening(), world.go(("evening",)), world.day_now()), ((), (), 2))
        world.open_archive("main", ("a",))
        self.assertEqual(world.archive_named("main"), first_archive(("a",), today=2))

    def test_answers_of_several_archives_are_ascending(self):
        world = world_of(("open", "z", ("a",)), ("open", "y", ("b",)),
                         ("grant", "q", ("ann", (("a", 1),), 0, 3, ("window", 1))),
                         ("grant", "p", ("bob", (("b", 1),), 0, 3, ("window", 1))),
                         ("grant", "r", ("bob", (("b", 1),), 1, 3, ("window", 1))), ("enter", "b", 7))
        self.assertEqual(world.evening(), (("p", "bob", ((("b", 0), 1),), 7), ("q", "ann", A_ROW, 0)))
        self.assertEqual([one[:2] for one in world.answers_shown()], [(0, "p"), (0, "q")])
        world.evening()
        self.assertEqual([one[:2] for one in world.answers_shown()], [(0, "p"), (0, "q"), (1, "p"), (1, "q"), (1, "r")])

    def test_corrections_do_not_change_what_was_shown(self):
        world = world_of(MAIN, GRANT, ("enter", "a", 5), ("evening",), ("correct", "a", 0, 10))
        self.assertEqual(world.answers_shown()[0][4], 5)
        self.assertEqual(world.knows_now(("ann",), SUM_ROW), (15, 0))
        self.assertEqual(world.answer_now(SUM_ROW), 15)
        self.assertEqual(world.evening()[0][3], 15)

    def test_cells_with_the_sum_0_are_left_out(self):
        world = world_of(MAIN, ("enter", "a", 5), ("enter", "b", 0), ("enter", "a", -5))
        self.assertEqual(world.data_now(), ())

    def test_a_right_that_asks_for_no_day(self):
        world = world_of(MAIN, ("grant", "r", ("ann", (("a", 1),), 0, 0, ("total", 5))))
        self.assertEqual(world.evening(), (("r", "ann", (), 0),))
        self.assertEqual((world.known_now(("ann",)), world.answers_shown()), ((), ((0, "r", "ann", (), 0),)))


class Queries(unittest.TestCase):
    def world(self):
        return world_of(MAIN, SIDE, GRANT, ("enter", "a", 5), ("enter", "c", 4), ("grant", "s", ("bob", (("c", 2),), 0, 3, ("total", 0))),
                        ("evening",), ("enter", "b", 3))

    def test_answers(self):
        world = self.world()
        c_row = ((("c", 0), 1),)
        self.assertEqual(both_ways(self, world.answer_now, question=SUM_ROW + c_row), 9)
        self.assertEqual(both_ways(self, world.answer_now, question=()), 0)
        self.assertEqual(world.answer_now(((("b", 1), -SIXTY), (("c", 0), 3))), 12 - 3 * SIXTY)
        for question in (A_ROW, A_ROW + c_row, ((("d", 0), 1),), ((("a", 1), 1), (("d", 1), 1)), ((("a", 2), 1),), c_row + ((("z", 0), 1),)):
            for call in (lambda: world.answer_now(question), lambda: world.answer_now(question=question)):
                with self.assertRaises(NotAnswerable) as caught:
                    call()
                self.assertIs(caught.exception.row, question)
                self.assertIsInstance(caught.exception, ArchiveError)

    def test_parts_of_several_archives(self):
        # Each archive has only the sum of its part; together they answer the sum of all.
        world = world_of(MAIN, ("open", "side", ("c", "d")), GRANT,
                         ("grant", "s", ("bob", (("c", 1), ("d", 1)), 0, 3, ("total", 0))), ("enter", "a", 1), ("enter", "d", 2),
                         ("evening",))
        question = tuple(((account, 0), 1) for account in "abcd")
        self.assertEqual(world.answer_now(question), 3)
        self.assertRaises(NotAnswerable, world.answer_now, question[:3])

    def test_unknown_archives(self):
        world = self.world()
        for call in (lambda: world.archive_named("x"), lambda: world.archive_named(name="x"), lambda: world.cost_now("x"),
                     lambda: world.cost_now(archive="x"), lambda: world.shares_now("x"), lambda: world.shares_now(archive="x"),
                     lambda: world.endings_now("x", 0), lambda: world.endings_now(archive="x", most=0)):
            with self.assertRaises(UnknownName) as caught:
                call()
            self.assertEqual(caught.exception.name, "x")
            self.assertIsInstance(caught.exception, ArchiveError)

    def test_both_ways(self):
        world = self.world()
        self.assertEqual(both_ways(self, world.archive_named, name="side")[0], ("c",))
        self.assertEqual(both_ways(self, world.known_now, group=("bob",)), (((("c", 0), 2),),))
        self.assertEqual(both_ways(self, world.knows_now, group=("bob",), question=((("c", 0), 1),)), (4, 0))
        self.assertIs(both_ways(self, world.stands_now, group=("bob",), question=((("c", 0), 1),), m=0), False)
        self.assertEqual(both_ways(self, world.cost_now, archive="main"), 0)
        self.assertEqual(both_ways(self, world.cost_now, archive="side"), 1)
        self.assertEqual(both_ways(self, world.shares_now, archive="side"), (("s", (1, 1)),))
        self.assertEqual(both_ways(self, world.endings_now, archive="side", most=0), (("s",),))
        self.assertEqual(both_ways(self, world.givings_now, group=("ann",), question=((("a", 1), 1), (("b", 1), 1)), m=3), (("r",),))

    def test_methods_by_name(self):
        calls = (("open_archive", {"archive": "main", "accounts": ("a", "b")}), ("enter_amount", {"account": "a", "amount": 5}),
                 ("grant_right", {"name": "r", "right": SUM_RIGHT}), ("wall_off", {"name": "w", "group": ("bob",), "question": A_ROW, "m": 2}),
                 ("evening", {}), ("correct_cell", {"account": "a", "day": 0, "difference": 1}), ("take_down", {"name": "w"}),
                 ("grant_right", {"name": "s", "right": ("ann", (("a", 1), ("b", 1)), 1, 1, ("window", 1))}),
                 ("halve_right", {"name": "s", "accounts": ("a",), "left": "t", "right": "u"}), ("end_right", {"name": "r"}),
                 ("evening", {}), ("split_into", {"archive": "main", "accounts": ("a",), "left": "x", "right": "y"}),
                 ("merge_archives", {"one": "x", "other": "y", "fresh": "z"}))
        named, placed = World(), World()
        for method, arguments in calls:
            before = copy.deepcopy(arguments)
            self.assertEqual(getattr(named, method)(**arguments), getattr(placed, method)(*arguments.values()))
            self.assertEqual(arguments, before)
        self.assertEqual(named, placed)
        self.assertEqual(len(named), len(calls))
        self.assertEqual(snapshot(named), snapshot(placed))

    def test_givings_refer_to_all_archives_and_to_what_is_known(self):
        world = world_of(MAIN, SIDE, ("grant", "p", ("ann", (("a", 1),), 0, 0, ("total", 0))),
                         ("grant", "q", ("bob", (("c", 1),), 0, 2, ("total", 0))))
        question = ((("a", 0), 1), (("c", 0), 1))
        self.assertEqual(world.givings_now(("ann", "bob"), question, 0), (("p",), ("q",)))
        world.evening()
        # Now both know their values, and nothing helps any more.
        self.assertEqual(world.givings_now(("ann", "bob"), question, 0), ())
        self.assertEqual(world.givings_now(("ann",), question, 0), ((),))

    def test_queries_are_not_counted_and_change_nothing(self):
        world = self.world()
        counts = world.counts()
        before = snapshot(world)
        for step in STEPS + (None,):
            world.bars_now(step)
            world.falls_by(step)
        self.assertEqual(snapshot(world), before)
        self.assertEqual(world.counts(), counts)


class ComparedWorlds(unittest.TestCase):
    """Random worlds, compared with one that forgets nothing."""

    def check(self, world, plain, source):
        self.assertEqual(world.log(), tuple(plain.steps))
        self.assertEqual(world.day_now(), plain.day)
        self.assertEqual(world.archive_names(), tuple(sorted(plain.stores)))
        self.assertEqual(world.right_names(), tuple(name for name, right in plain.rights()))
        self.assertEqual(world.walls_now(), tuple(sorted(plain.walls.items())))
        self.assertEqual(world.data_now(), plain.complete())
        self.assertEqual(world.answers_shown(), tuple(plain.shown))
        for name in world.archive_names():
            self.assertEqual(world.archive_named(name), plain.archive(name))
        for name, wall in plain.walls.items():
            self.assertTrue(world.stands_now(*wall))
        group, question = random_group(source), random_question(source, plain.day)
        self.assertEqual(world.known_now(group), plain.known(group))
        self.assertIs(world.stands_now(group, question, 2), plain.stands((group, question, 2)))
        self.compare_answer(world, question, plain.answer(question))

    def compare_answer(self, world, question, wanted):
        if wanted is None:
            self.assertRaises(NotAnswerable, world.answer_now, question)
        else:
            self.assertEqual(world.answer_now(question), wanted)

    def finished(self, seed):
        """The world after a random trial, and the one that forgets nothing."""
        plain = None
        for step, plain in random_trial(seed):
            if plain.bar(step) is None:
                plain.do(step)
        return world_of(*plain.steps), plain

    def run_trial(self, seed, found):
        world, source = World(), random.Random(seed)
        for step, plain in random_trial(seed):
            word = plain.bar(step)
            self.assertEqual(world.bars_now(step), word)
            found[step[0], word] = found.get((step[0], word), 0) + 1
            call = getattr(world, METHODS[step[0]])
            if word is None:
                self.assertEqual(call(*step[1:]), plain.do(step))
                self.check(world, plain, source)
            else:
                before = repr((world.log(), world.day_now(), world.data_now(), world.walls_now(), world.answers_shown()))
                with self.assertRaises(InvalidStep) as caught:
                    source.choice((lambda: call(*step[1:]), lambda: world.go(step)))()
                self.assertEqual((caught.exception.step, caught.exception.reason), (step, word))
                self.assertEqual(repr((world.log(), world.day_now(), world.data_now(), world.walls_now(), world.answers_shown())), before)
            fallen = plain.fallen((), [(step[1], step[2])]) if step[0] == "grant" and word == "wall" else None
            if step[0] != "halve":
                self.assertEqual(world.falls_by(step), fallen)

    def test_random_worlds(self):
        found = {}
        for seed in range(250):
            self.run_trial(seed, found)
        words = {("open", "archive"), ("open", "account"), ("enter", "account"), ("correct", "account"), ("correct", "day"),
                 ("grant", "name"), ("grant", "account"), ("grant", "over"), ("grant", "lost"), ("grant", "wall"), ("end", "name"),
                 ("halve", "name"), ("halve", "account"), ("halve", "side"), ("halve", "fresh"), ("halve", "lost"), ("halve", "wall"),
                 ("merge", "archive"), ("merge", "fresh"), ("split", "archive"), ("split", "account"), ("split", "side"),
                 ("split", "right"), ("split", "fresh"), ("wall", "name"), ("wall", "falls"), ("unwall", "name")}
        words |= {(word, None) for word in METHODS}
        self.assertEqual(words - set(found), set())

    def test_archives_are_archives(self):
        for seed in range(40):
            world, plain = self.finished(seed)
            for name in world.archive_names():
                archive = world.archive_named(name)
                lets_archive(archive)
                self.assertEqual(world.cost_now(name), cost_of(archive[2], world.day_now()))
                self.assertEqual(world.shares_now(name), fair_shares(archive[2], world.day_now()))
                for most in (0, 1, 2):
                    self.assertEqual(world.endings_now(name, most), least_endings(archive[2], world.day_now(), most))

    def test_knowledge_and_givings(self):
        moduli = set()
        for seed in range(120):
            world, plain = self.finished(seed)
            source = random.Random(seed)
            for k in range(3):
                group, question = random_group(source), random_question(source, plain.day)
                v, g = world.knows_now(group, question)
                rows = plain.known(group)
                if few_rows(rows):
                    self.assertEqual(g, plain_modulus(rows, question))
                value = plain.value(question)
                self.assertTrue(v == value if g == 0 else 0 <= v < g and (value - v) % g == 0)
                moduli.add(g)
                wall = (group, question, source.choice((0, 2)))
                self.assertEqual(world.givings_now(*wall), sets_to_end(plain.rights(), plain.day, rows, wall))
        self.assertGreaterEqual(moduli, {0, 1, 2})

    def test_givings_let_a_wall_stand(self):
        helped = 0
        for seed in range(120):
            world, plain = self.finished(seed)
            source = random.Random(seed)
            for name, right in plain.rights():
                wall = ((right[0],), random_question(source, plain.day), 0)
                for names in world.givings_now(*wall):
                    other = world_of(*world.log(), *[("end", one) for one in names])
                    self.assertTrue(other.stands_now(*wall))
                    for one in names:
                        less = world_of(*world.log(), *[("end", two) for two in names if two != one])
                        self.assertFalse(less.stands_now(*wall))
                        helped += 1
        self.assertGreater(helped, 10)

    def test_one_archive_is_a_history(self):
        for seed in range(40):
            accounts, tried = random_history(seed)
            steps = tuple(step for step, word in tried if word is None)
            history = (accounts, steps)
            world = world_of(("open", "main", accounts), *steps)
            self.assertEqual(world.archive_named("main"), archives_of(history)[-1])
            self.assertEqual((world.data_now(), world.answers_shown()), (data_of(history), shown_in(history)))
            for person in PERSONS:
                self.assertEqual(world.known_now((person,)), known_rows(history, (person,)))
                self.assertEqual(world.knows_now((person,), A_ROW), knows(history, (person,), A_ROW))

    def test_archives_apart_or_together_show_the_same(self):
        for seed in range(60):
            world, plain = self.finished(seed)
            if len(world.archive_names()) < 2:
                continue
            one, other = world.archive_names()[:2]
            merged = world_of(*world.log(), ("merge", one, other, one))
            split = world_of(*merged.log(), ("split", one, world.archive_named(one)[0], one, other))
            for k in range(4):
                self.assertEqual(merged.evening(), split.evening())
                self.assertEqual(split.answers_shown()[len(world.answers_shown()):], merged.answers_shown()[len(world.answers_shown()):])

    def test_a_standing_wall_stays(self):
        # No use of existing rights breaks a wall; only grants and halves could, and they are barred.
        for seed in range(60):
            world, plain = self.finished(seed)
            for k in range(5):
                world.evening()
                for name, wall in world.walls_now():
                    self.assertTrue(world.stands_now(*wall))
                    if wall[2] == 0:
                        self.assertNotEqual(world.knows_now(wall[0], wall[1])[1], 0)


if __name__ == "__main__":
    unittest.main()
