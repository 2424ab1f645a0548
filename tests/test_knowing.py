"""[7], [50], [51], [8] (G3): what groups know, and the rows to come."""

import random
import unittest
from math import gcd

from askrights.histories import archives_of, data_of
from askrights.knowing import known_rows, knows, rows_to_come
from askrights.rowsums import add_rows, scale_row
from tests.helpers import both_ways, effect, plain_modulus, plain_rank, random_row
from tests.righthelpers import (ACCOUNTS, PERIOD, PERSONS, SIXTY, TOTAL, WINDOW, PlainArchive, plain_question,
                                random_history, random_rights, right_of)

A, B, C = ((("a", 0), 1),), ((("b", 0), 1),), ((("c", 0), 1),)
ONE = ((("a", 0), 1), (("b", 0), 3))
TWO = ((("b", 0), 1), (("c", 0), 3))
TODAY = ("period", 0, 0)
GRANTS = (("grant", "one", ("ann", (("a", 1), ("b", 3)), 0, 0, TODAY)),
          ("grant", "two", ("bob", (("b", 1), ("c", 3)), 0, 0, TODAY)))
ENTRIES = (("enter", "a", 2), ("enter", "b", 1), ("enter", "c", 2), ("evening",))
HISTORY = (("a", "b", "c"), GRANTS + ENTRIES)
DIFF, PLUS = ((("a", 0), 1), (("b", 0), -1)), ((("a", 0), 1), (("b", 0), 1))
RIGHTS = (("diff", ("ann", (("a", 1), ("b", -1)), 0, 0, TODAY)), ("lone", ("bob", (("b", 1),), 0, 0, TODAY)),
          ("plus", ("ann", (("a", 1), ("b", 1)), 0, 0, TODAY)))
WALL = (("ann", "bob"), A, 0)


def plain_known(plain, group):
    """The shown questions of an archive that forgets nothing."""
    return tuple(sorted({question for day, name, person, question, value in plain.shown if person in group} - {()}))


def plain_to_come(rights, today, group):
    rows = {plain_question(right, day) for name, right in rights if right[0] in group
            for day in range(right[2], right[3] + 1) if day >= today}
    return tuple(sorted(rows - {()}))


def valid_history(seed, **more):
    """A history whose steps can be done, and the archive that forgets nothing."""
    accounts, tried = random_history(seed, **more)
    steps = tuple(step for step, word in tried if word is None)
    plain = PlainArchive(accounts)
    for step in steps:
        plain.do(step)
    return (accounts, steps), plain


def groups_of(source):
    return tuple(sorted(source.sample(PERSONS, source.randint(1, len(PERSONS)))))


def few_rows(rows):
    """Whether the minors of these rows are quickly computed."""
    return plain_rank(rows) <= 4 and len({cell for one in rows for cell, weight in one}) <= 12


class KnownRows(unittest.TestCase):
    def known(self, history, group):
        return both_ways(self, known_rows, history=history, group=group)

    def test_example(self):
        self.assertTrue(known_rows(HISTORY, ("ann", "bob")) == (ONE, TWO))

    def test_groups(self):
        self.assertEqual(self.known(HISTORY, ("ann",)), (ONE,))
        self.assertEqual(self.known(HISTORY, ("bob",)), (TWO,))
        self.assertEqual(self.known(HISTORY, ("cy",)), ())
        self.assertEqual(self.known(HISTORY, ("ann", "bob", "cy")), (ONE, TWO))
        self.assertEqual(self.known((("a",), ()), ("ann",)), ())
        self.assertEqual(self.known((("a", "b", "c"), GRANTS), ("ann",)), ())

    def test_no_zero_row_and_no_row_twice(self):
        later = ("ann", (("a", 1),), 0, 2, ("total", 1))
        steps = (("grant", "r", later), ("evening",))
        self.assertEqual(self.known((("a",), steps), ("ann",)), ())
        again = tuple(("grant", name, (person, (("a", 1),), 0, 2, TODAY)) for name, person in zip("pqr", PERSONS))
        self.assertEqual(self.known((("a",), again + (("evening",),) * 3), ("ann", "bob")), (A,))

    def test_ended_rights_are_still_known(self):
        steps = GRANTS[:1] + (("evening",), ("grant", "r", ("ann", (("a", 1),), 1, 5, ("window", 1))), ("evening",), ("end", "r"))
        self.assertEqual(self.known((ACCOUNTS, steps), ("ann",)), (ONE, ((("a", 1), 1),)))

    def test_random_histories(self):
        for seed in range(40):
            history, plain = valid_history(seed)
            source = random.Random(seed)
            for group in [(person,) for person in PERSONS] + [groups_of(source)]:
                self.assertEqual(self.known(history, group), plain_known(plain, group))


class RowsToCome(unittest.TestCase):
    def come(self, rights, today, group):
        return both_ways(self, rows_to_come, rights=rights, today=today, group=group)

    def test_example(self):
        self.assertTrue(rows_to_come(RIGHTS, 0, ("ann",)) == (DIFF, PLUS))

    def test_groups_and_days(self):
        self.assertEqual(self.come(RIGHTS, 0, ("bob",)), (B,))
        self.assertEqual(self.come(RIGHTS, 0, ("ann", "bob")), (DIFF, PLUS, B))
        self.assertEqual(self.come(RIGHTS, 0, ("cy",)), ())
        self.assertEqual(self.come(RIGHTS, 1, ("ann", "bob")), ())
        self.assertEqual(self.come((), 0, ("ann",)), ())
        self.assertEqual(self.come((("r", WINDOW),), 3, ("ann",)), (((("a", 2), 1), (("a", 3), 1)),))
        self.assertEqual(len(self.come((("r", WINDOW),), 0, ("ann",))), 3)
        self.assertEqual(self.come((("r", WINDOW), ("s", WINDOW)), 0, ("ann",)), self.come((("r", WINDOW),), 0, ("ann",)))
        # A period that has not begun asks for nothing, and then more every day until it is over.
        self.assertEqual(len(self.come((("r", PERIOD),), 0, ("cy",))), 3)
        self.assertEqual(self.come((("r", TOTAL),), 3, ("bob",)), ())

    def test_random_rights(self):
        source = random.Random(90)
        for case in range(150):
            rights, today, group = random_rights(source), source.randint(0, 10), groups_of(source)
            self.assertEqual(self.come(rights, today, group), plain_to_come(rights, today, group))


class Knows(unittest.TestCase):
    def knows(self, history, group, question):
        return both_ways(self, knows, history=history, group=group, question=question)

    def test_examples(self):
        self.assertEqual(knows(HISTORY, ("ann",), A), (2, 3))
        self.assertEqual(knows(HISTORY, ("ann", "bob"), A), (2, 9))
        self.assertEqual(knows(HISTORY, ("ann",), ONE), (5, 0))

    def test_edges(self):
        self.assertEqual(self.knows(HISTORY, ("cy",), A), (0, 1))
        self.assertEqual(self.knows(HISTORY, ("cy",), ()), (0, 0))
        self.assertEqual(self.knows(HISTORY, ("ann",), ()), (0, 0))
        self.assertEqual(self.knows(HISTORY, ("cy",), scale_row(A, -6)), (0, 6))
        self.assertEqual(self.knows(HISTORY, ("bob",), A), (0, 1))
        self.assertEqual(self.knows(HISTORY, ("bob",), C), (0, 1))
        self.assertEqual(self.knows(HISTORY, ("ann", "bob"), TWO), (7, 0))
        self.assertEqual(self.knows(HISTORY, ("ann", "bob"), scale_row(A, 5)), (10, 45))
        self.assertEqual(self.knows(HISTORY, ("ann",), scale_row(ONE, -SIXTY)), (-5 * SIXTY, 0))
        self.assertEqual(self.knows((("a",), ()), ("ann",), ((("zz", 7), 4),)), (0, 4))

    def test_negative_values(self):
        history = (ACCOUNTS, GRANTS + (("enter", "a", -7), ("enter", "b", 1), ("evening",)))
        self.assertEqual(self.knows(history, ("ann",), A), (2, 3))
        self.assertEqual(self.knows(history, ("ann",), ONE), (-4, 0))

    def test_corrections(self):
        # The differences are published, so the group knows the corrected value.
        corrections = (("correct", "a", 0, 10), ("correct", "c", 0, -2))
        history = (HISTORY[0], HISTORY[1] + corrections)
        self.assertEqual(self.knows(history, ("ann",), ONE), (15, 0))
        self.assertEqual(self.knows(history, ("bob",), TWO), (1, 0))
        self.assertEqual(self.knows(history, ("ann",), A), (0, 3))
        self.assertEqual(self.knows(history, ("ann", "bob"), A), (3, 9))
        self.assertEqual(self.knows(history, ("ann", "bob"), C), (0, 1))

    def test_random_histories(self):
        moduli = set()
        for seed in range(120):
            history, plain = valid_history(seed, last_today=4)
            source = random.Random(seed)
            group = groups_of(source)
            rows = plain_known(plain, group)
            if not few_rows(rows):
                continue
            cells = [(account, day) for account in history[0] for day in range(4)]
            for case in range(3):
                question = random_row(source, cells, 9, 0.3)
                if case and rows:
                    question = add_rows(scale_row(source.choice(rows), 2), scale_row(question, source.randint(0, 2)))
                v, g = self.knows(history, group, question)
                self.assertEqual(g, plain_modulus(rows, question))
                value = effect(question, data_of(history))
                self.assertEqual(value, plain.value(question))
                self.assertTrue(v == value if g == 0 else 0 <= v < g and (value - v) % g == 0)
                moduli.add(min(g, 4))
        self.assertEqual(moduli, {0, 1, 2, 3, 4})

    def test_consequences(self):
        for seed in range(60):
            history, plain = valid_history(seed, last_today=6)
            source = random.Random(seed)
            small, large = groups_of(source), groups_of(source)
            both = tuple(sorted(set(small) | set(large)))
            cells = [(account, day) for account in history[0] for day in range(4)]
            one, other = random_row(source, cells, 4, 0.3), random_row(source, cells, 4, 0.3)
            g = [self.knows(history, small, row)[1] for row in (one, other, add_rows(one, other))]
            self.assertTrue(self.multiple(g[2], gcd(g[0], g[1])))
            factor = source.choice((-7, -1, 2, 10 ** 30))
            self.assertEqual(self.knows(history, small, scale_row(one, factor))[1], abs(factor) * g[0])
            self.assertTrue(self.multiple(self.knows(history, both, one)[1], g[0]))

    def test_rows_of_both_kinds_never_become_more(self):
        # An evening moves rows from the rows to come to the known rows; only grants and halves add some.
        for seed in range(25):
            history, plain = valid_history(seed)
            group = groups_of(random.Random(seed))
            before = None
            for many, archive in enumerate(archives_of(history)):
                past = (history[0], history[1][:many])
                after = set(known_rows(past, group)) | set(rows_to_come(archive[2], archive[1], group))
                if before is not None and history[1][many - 1][0] not in ("grant", "halve"):
                    self.assertLessEqual(after, before)
                    if history[1][many - 1][0] != "end":
                        self.assertEqual(after, before)
                before = after

    def multiple(self, new, old):
        return new == 0 or (old != 0 and new % old == 0)

    def test_a_right_that_asks_for_no_day(self):
        history = (("a",), (("grant", "r", right_of(("period", 8, 9), 0, 1)), ("enter", "a", 4), ("evening",)))
        self.assertEqual(self.knows(history, ("ann",), A), (0, 1))


if __name__ == "__main__":
    unittest.main()
