"""[28], [29]: what bars a step, and the archive after it."""

import copy
import unittest

from askrights.archivechecker import lets_archive
from askrights.archives import first_archive
from askrights.errors import ArchiveError, InvalidStep
from askrights.steps import barred_by, done
from tests.helpers import A0, A1, B0, B1, both_ways
from tests.righthelpers import ARCHIVE, SIXTY, WINDOW, right_of

KEPT = ((((A0, 1), (B0, 2)), 7), (((A1, 2), (B1, -3)), -4))
WIDE = (("a", "b", "c"), 2, (("r", ("ann", (("a", 1), ("b", 2)), 0, 2, ("period", 0, 0))),), KEPT,
        (("a", 1), ("b", -2), ("c", 0)))


class Bars(unittest.TestCase):
    def bar(self, archive, *step):
        found = both_ways(self, barred_by, archive=archive, step=step)
        before = copy.deepcopy(archive)
        if found is not None:
            for call in (lambda: done(archive, step), lambda: done(archive=archive, step=step)):
                with self.assertRaises(InvalidStep) as caught:
                    call()
                self.assertIsInstance(caught.exception, ArchiveError)
                self.assertIs(caught.exception.step, step)
                self.assertEqual(caught.exception.reason, found)
        else:
            lets_archive(both_ways(self, done, archive=archive, step=step))
        self.assertEqual(archive, before)
        return found

    def test_examples(self):
        one = first_archive(("a",))
        found = [barred_by(one, ("enter", "b", 1)), barred_by(one, ("correct", "a", 0, 1)),
                 barred_by(one, ("grant", "r", WINDOW))]
        self.assertEqual(found, ["account", "day", None])
        with self.assertRaises(InvalidStep) as caught:
            done(first_archive(("a",)), ("end", "r"))
        self.assertEqual((caught.exception.step, caught.exception.reason), (("end", "r"), "name"))

    def test_enter(self):
        self.assertEqual(self.bar(ARCHIVE, "enter", "c", 1), "account")
        self.assertEqual(self.bar(ARCHIVE, "enter", "sum", 1), "account")
        self.assertIsNone(self.bar(ARCHIVE, "enter", "a", 0))

    def test_correct(self):
        self.assertEqual(self.bar(ARCHIVE, "correct", "c", 0, 1), "account")
        self.assertEqual(self.bar(ARCHIVE, "correct", "c", 5, 1), "account")
        self.assertEqual(self.bar(ARCHIVE, "correct", "a", 1, 1), "day")
        self.assertEqual(self.bar(ARCHIVE, "correct", "a", SIXTY, 0), "day")
        self.assertIsNone(self.bar(ARCHIVE, "correct", "a", 0, 1))
        self.assertEqual(self.bar(first_archive(("a",)), "correct", "a", 0, 1), "day")

    def test_evening_and_end(self):
        self.assertIsNone(self.bar(ARCHIVE, "evening"))
        self.assertIsNone(self.bar(first_archive(("a",)), "evening"))
        self.assertEqual(self.bar(ARCHIVE, "end", "a"), "name")
        self.assertIsNone(self.bar(ARCHIVE, "end", "sum"))

    def test_grant_alone(self):
        self.assertEqual(self.bar(ARCHIVE, "grant", "sum", right_of(("window", 1))), "name")
        self.assertEqual(self.bar(ARCHIVE, "grant", "r", right_of(("window", 1), weights=(("a", 1), ("c", 1)))), "account")
        self.assertEqual(self.bar(ARCHIVE, "grant", "r", right_of(("window", 1), 0, 0)), "over")
        self.assertEqual(self.bar(ARCHIVE, "grant", "r", right_of(("total", 0), 1, 1)), "lost")
        self.assertEqual(self.bar(ARCHIVE, "grant", "r", right_of(("total", 0), 2, 2)), "lost")
        self.assertEqual(self.bar(ARCHIVE, "grant", "r", right_of(("window", 2), 1, 2)), "lost")
        self.assertIsNone(self.bar(ARCHIVE, "grant", "r", right_of(("window", 2), 2, 9)))
        self.assertIsNone(self.bar(ARCHIVE, "grant", "r", right_of(("window", 1), 0, 1)))
        self.assertIsNone(self.bar(ARCHIVE, "grant", "r", right_of(("total", 1), 0, 9)))
        self.assertIsNone(self.bar(ARCHIVE, "grant", "r", right_of(("total", 0), 1, 9, (("a", -3), ("b", -3)))))
        self.assertEqual(self.bar(ARCHIVE, "grant", "r", right_of(("total", 0), 1, 9, (("a", 1), ("b", 2)))), "lost")
        self.assertIsNone(self.bar(ARCHIVE, "grant", "r", right_of(("period", 3, 4), 0, 9)))
        self.assertIsNone(self.bar(ARCHIVE, "grant", "r", right_of(("total", 0), 0, SIXTY, (("a", 1), ("b", 1)))))

    def test_grant_in_order(self):
        stranger = (("a", 1), ("c", 1))
        self.assertEqual(self.bar(ARCHIVE, "grant", "sum", right_of(("total", 0), 0, 0, stranger)), "name")
        self.assertEqual(self.bar(ARCHIVE, "grant", "r", right_of(("total", 0), 0, 0, stranger)), "account")
        self.assertEqual(self.bar(ARCHIVE, "grant", "r", right_of(("total", 0), 0, 3, stranger)), "account")
        self.assertEqual(self.bar(ARCHIVE, "grant", "r", right_of(("total", 0), 0, 0)), "over")

    def test_halve_alone(self):
        self.assertEqual(self.bar(WIDE, "halve", "q", ("a",), "s", "t"), "name")
        self.assertEqual(self.bar(WIDE, "halve", "r", ("a", "x"), "s", "t"), "account")
        self.assertEqual(self.bar(WIDE, "halve", "r", ("c",), "s", "t"), "side")
        self.assertEqual(self.bar(WIDE, "halve", "r", ("a", "b"), "s", "t"), "side")
        self.assertEqual(self.bar(WIDE, "halve", "r", ("a", "b", "c"), "s", "t"), "side")
        self.assertEqual(self.bar(WIDE, "halve", "r", ("a",), "s", "s"), "fresh")
        self.assertEqual(self.bar(WIDE, "halve", "r", ("a",), "r", "s"), "fresh")
        self.assertEqual(self.bar(WIDE, "halve", "r", ("a",), "s", "r"), "fresh")
        self.assertEqual(self.bar(WIDE, "halve", "r", ("a",), "s", "t"), "lost")
        more = done(WIDE, ("grant", "z", right_of(("window", 1))))
        self.assertEqual(self.bar(more, "halve", "r", ("a",), "z", "t"), "fresh")
        self.assertEqual(self.bar(more, "halve", "r", ("a",), "t", "z"), "fresh")
        self.assertEqual(self.bar(more, "halve", "z", ("a",), "s", "t"), "side")
        both = done(WIDE, ("grant", "z", right_of(("total", 2), 2, 9, (("a", 1), ("b", 2), ("c", 3)))))
        self.assertIsNone(self.bar(both, "halve", "z", ("a",), "s", "t"))
        self.assertIsNone(self.bar(both, "halve", "z", ("a", "c"), "s", "t"))

    def test_halve_is_lost_by_one_half(self):
        # Of the two accounts of the right, only the one that is asked on its own day can be told apart.
        kept = ((((A0, 1),), 3), (((B0, 1), (("c", 0), 1)), 4))
        archive = (("a", "b", "c"), 1, (("r", right_of(("total", 0), 1, 2, (("a", 1), ("b", 1), ("c", 1)))),), kept,
                   (("a", 0), ("b", 0), ("c", 0)))
        self.assertEqual(lets_archive(archive), 2)
        self.assertIsNone(self.bar(archive, "halve", "r", ("a",), "s", "t"))
        self.assertIsNone(self.bar(archive, "halve", "r", ("b", "c"), "s", "t"))
        self.assertEqual(self.bar(archive, "halve", "r", ("b",), "s", "t"), "lost")
        self.assertEqual(self.bar(archive, "halve", "r", ("a", "b"), "s", "t"), "lost")

    def test_halve_in_order(self):
        self.assertEqual(self.bar(WIDE, "halve", "q", ("x",), "r", "r"), "name")
        self.assertEqual(self.bar(WIDE, "halve", "r", ("x",), "r", "r"), "account")
        self.assertEqual(self.bar(WIDE, "halve", "r", ("a", "b", "x"), "r", "r"), "account")
        self.assertEqual(self.bar(WIDE, "halve", "r", ("c",), "r", "r"), "side")
        self.assertEqual(self.bar(WIDE, "halve", "r", ("a", "b"), "r", "s"), "side")
        self.assertEqual(self.bar(WIDE, "halve", "r", ("a",), "r", "r"), "fresh")


class Effects(unittest.TestCase):
    def do(self, archive, *step):
        return both_ways(self, done, archive=archive, step=step)

    def same_but(self, archive, found, index, part):
        self.assertEqual(found, archive[:index] + (part,) + archive[index + 1:])

    def test_example(self):
        one = done(done(first_archive(("a",)), ("enter", "a", 5)), ("grant", "r", WINDOW))
        self.assertEqual(done(one, ("evening",)), (("a",), 1, (("r", ("ann", (("a", 1),), 1, 3, ("window", 2))),),
                                                   ((((("a", 0), 1),), 5),), (("a", 0),)))

    def test_enter(self):
        self.same_but(WIDE, self.do(WIDE, "enter", "b", 5), 4, (("a", 1), ("b", 3), ("c", 0)))
        self.same_but(WIDE, self.do(WIDE, "enter", "a", -1), 4, (("a", 0), ("b", -2), ("c", 0)))
        self.assertEqual(self.do(WIDE, "enter", "c", 0), WIDE)
        self.same_but(WIDE, self.do(WIDE, "enter", "c", -SIXTY), 4, (("a", 1), ("b", -2), ("c", -SIXTY)))

    def test_correct(self):
        self.same_but(WIDE, self.do(WIDE, "correct", "b", 0, 5), 3, ((KEPT[0][0], 17), KEPT[1]))
        self.same_but(WIDE, self.do(WIDE, "correct", "b", 1, 5), 3, (KEPT[0], (KEPT[1][0], -19)))
        self.assertEqual(self.do(WIDE, "correct", "c", 1, 5), WIDE)
        self.assertEqual(self.do(WIDE, "correct", "a", 1, 0), WIDE)
        shared = WIDE[:3] + (((((A0, 1), (A1, 1), (B1, 4)), 1), (((B0, 1), (B1, 3)), 2)),) + WIDE[4:]
        self.assertEqual([value for row, value in self.do(shared, "correct", "b", 1, -2)[3]], [-7, -4])

    def test_grant_and_end(self):
        found = self.do(WIDE, "grant", "a", WINDOW[:2] + (3, 3, ("total", 2)))
        self.same_but(WIDE, found, 2, (("a", WINDOW[:2] + (3, 3, ("total", 2))),) + WIDE[2])
        found = self.do(found, "grant", "z", right_of(("window", 1)))
        self.assertEqual([name for name, right in found[2]], ["a", "r", "z"])
        found = self.do(found, "end", "r")
        self.assertEqual([name for name, right in found[2]], ["a", "z"])
        self.assertEqual(found[3:], WIDE[3:])
        self.same_but(WIDE, self.do(WIDE, "end", "r"), 2, ())

    def test_kept_becomes_smaller_in_the_next_evening(self):
        without = self.do(ARCHIVE, "end", "sum")
        self.assertEqual(without[3], ARCHIVE[3])
        self.assertEqual(self.do(without, "evening"), (("a", "b"), 2, (), (), (("a", 0), ("b", 0))))

    def test_a_right_that_ended_can_be_granted_again_on_the_same_day(self):
        without = self.do(ARCHIVE, "end", "sum")
        self.assertEqual(self.do(without, "grant", "sum", ARCHIVE[2][0][1]), ARCHIVE)
        self.assertEqual(barred_by(self.do(without, "evening"), ("grant", "sum", ARCHIVE[2][0][1])), "lost")

    def test_halve(self):
        whole = ("dee", (("a", 1), ("b", 2), ("c", 3)), 1, 9, ("total", 2))
        archive = self.do(WIDE, "grant", "m", whole)
        found = self.do(archive, "halve", "m", ("a", "c"), "x", "b")
        left, right = (("a", 1), ("c", 3)), (("b", 2),)
        self.same_but(archive, found, 2, (("b", ("dee", right, 1, 9, ("total", 2))), WIDE[2][0],
                                          ("x", ("dee", left, 1, 9, ("total", 2)))))

    def test_evening(self):
        self.assertEqual(self.do(ARCHIVE, "evening"), (("a", "b"), 2, ARCHIVE[2], ((((A0, 1), (A1, 1), (B0, 1), (B1, 1)), 8),),
                                                       (("a", 0), ("b", 0))))
        # The last day of use is today: the right ends, and nothing has to be kept.
        self.assertEqual(self.do(WIDE, "evening"), (("a", "b", "c"), 3, (), (), (("a", 0), ("b", 0), ("c", 0))))

    def test_evening_keeps_the_basis(self):
        start = first_archive(("a", "b"))
        for step in (("enter", "a", 3), ("enter", "b", 5), ("grant", "r", right_of(("total", 0), 1, 2, (("a", 2), ("b", 2)))),
                     ("grant", "s", right_of(("total", 0), 1, 2, (("a", 1), ("b", -1))))):
            start = self.do(start, *step)
        found = self.do(start, "evening")
        self.assertEqual(found[3], ((((A0, 1),), 3), (((B0, 1),), 5)))

    def test_the_other_order_of_a_day(self):
        steps = (("enter", "a", 4), ("enter", "a", -1), ("correct", "b", 0, 3), ("grant", "x", right_of(("window", 1))),
                 ("end", "r"), ("grant", "y", right_of(("total", 2), 3, 4)))
        one = other = WIDE
        for step in steps:
            one = self.do(one, *step)
        for step in reversed(steps):
            other = self.do(other, *step)
        self.assertEqual(one, other)
        self.assertEqual(self.do(one, "evening"), self.do(other, "evening"))


if __name__ == "__main__":
    unittest.main()
