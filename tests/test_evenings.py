"""[26], [30], [8] (G2): what an evening shows and keeps."""

import random
import unittest

from askrights.archives import first_archive
from askrights.bases import basis_of
from askrights.evenings import keep_of, shown_by
from askrights.rowsums import row_value
from askrights.smallest import smallest_paper
from askrights.steps import done
from tests.helpers import A0, A1, B0, B1, CELLS, both_ways, effect, plain_rank, random_row
from tests.righthelpers import ARCHIVE, RIGHTS, WINDOW, plain_future, plain_question, random_rights, right_of


class Shown(unittest.TestCase):
    def shown(self, archive):
        return both_ways(self, shown_by, archive=archive)

    def test_example(self):
        one = done(done(first_archive(("a",)), ("enter", "a", 5)), ("grant", "r", WINDOW))
        self.assertEqual(shown_by(done(done(one, ("evening",)), ("enter", "a", 7))),
                         (("r", "ann", ((("a", 0), 1), (("a", 1), 1)), 12),))

    def test_nothing(self):
        self.assertEqual(self.shown(first_archive(("a", "b"))), ())
        self.assertEqual(self.shown(done(first_archive(("a",)), ("grant", "r", WINDOW))), ())

    def test_kept_and_current(self):
        self.assertEqual(self.shown(ARCHIVE), (("sum", "ann", ((A0, 1), (A1, 1), (B0, 1), (B1, 1)), 8),))

    def test_first_and_last_day_of_use(self):
        archive = done(done(first_archive(("a",)), ("grant", "r", right_of(("total", 0), 1, 2))), ("enter", "a", 5))
        found = []
        for day in range(4):
            found.append([answer[3] for answer in self.shown(archive)])
            archive = done(done(archive, ("evening",)), ("enter", "a", 10 ** day))
        self.assertEqual(found, [[], [6], [16], []])

    def test_the_question_may_be_the_zero_row(self):
        archive = first_archive(("a",))
        for name, kind in (("r", ("total", 3)), ("q", ("period", 1, 1)), ("s", ("window", 1))):
            archive = done(archive, ("grant", name, right_of(kind, 0, 5)))
        archive = done(archive, ("enter", "a", 9))
        self.assertEqual(self.shown(archive), (("q", "ann", (), 0), ("r", "ann", (), 0), ("s", "ann", ((A0, 1),), 9)))

    def test_equal_rights_under_several_names(self):
        archive = first_archive(("a",))
        for name, person in (("r", "bob"), ("q", "cy"), ("p", "bob")):
            archive = done(archive, ("grant", name, right_of(("window", 1), person=person)))
        row = ((A0, 1),)
        self.assertEqual(self.shown(done(archive, ("enter", "a", -1))),
                         (("p", "bob", row, -1), ("q", "cy", row, -1), ("r", "bob", row, -1)))


class Keep(unittest.TestCase):
    def keep(self, rights, data, day):
        return both_ways(self, keep_of, rights=rights, data=data, day=day)

    def test_example(self):
        self.assertEqual(keep_of(RIGHTS, ((("a", 0), 5), (("a", 1), 7), (("b", 0), 2)), 1),
                         ((((("a", 0), 1), (("b", 0), -1), (("b", 1), -1)), 3), (((("a", 1), 1),), 7)))

    def test_nothing_to_keep(self):
        data = ((A0, 5), (B1, 2))
        self.assertEqual(self.keep((), data, 1), ())
        self.assertEqual(self.keep((("r", WINDOW),), data, 3), ())
        self.assertEqual(self.keep((("r", right_of(("window", 1))),), data, 1), ())
        self.assertEqual(self.keep((("r", right_of(("total", 2))),), data, 1), ())

    def test_no_data(self):
        self.assertEqual(self.keep((("r", WINDOW),), (), 2), ((((("a", 2), 1),), 0),))

    def test_multiples_are_reduced(self):
        rights = (("r", right_of(("total", 0), 5, 9, (("a", 2), ("b", -2)))),)
        self.assertEqual(self.keep(rights, ((A0, 7), (B0, 3)), 0), ((((A0, 1), (B0, -1)), 4),))

    def test_random_rights(self):
        source = random.Random(55)
        for case in range(60):
            rights = random_rights(source)
            data = random_row(source, CELLS, 1000)
            for day in range(0, 11, 2):
                found = self.keep(rights, data, day)
                rows = tuple(row for row, value in found)
                self.assertEqual(rows, basis_of(plain_future(rights, day)))
                self.assertEqual([value for row, value in found], [effect(row, data) for row in rows])
                # Nothing beyond the rank is kept.
                self.assertEqual(len(rows), plain_rank(plain_future(rights, day)))
                self.assertIsNotNone(smallest_paper(rows))

    def test_equal_values_of_future_rows_give_equal_kept_parts(self):
        rights = (("r", right_of(("total", 0), 3, 9, (("a", 1), ("b", 1)))),)
        one, other = ((A0, 3), (B0, 4), (B1, 7)), ((A1, 14), (B0, 5), (("b", 3), 80), (("b", 1), -5))
        other = tuple(sorted(other))
        for row in plain_future(rights, 1):
            self.assertEqual(row_value(row, one), row_value(row, other))
        self.assertEqual(self.keep(rights, one, 1), self.keep(rights, other, 1))

    def test_kept_values_answer_the_next_day(self):
        source = random.Random(56)
        for case in range(30):
            rights = random_rights(source, most=3)
            data = random_row(source, CELLS, 50)
            archive = first_archive(("a", "b", "c"))
            for name, right in rights:
                archive = done(archive, ("grant", name, right))
            for day in range(10):
                for account in ("a", "b", "c"):
                    archive = done(archive, ("enter", account, dict(data).get((account, day), 0)))
                wanted = tuple((name, right[0], plain_question(right, day), effect(plain_question(right, day), data))
                               for name, right in rights if right[2] <= day <= right[3])
                self.assertEqual(shown_by(archive), wanted)
                archive = done(archive, ("evening",))
                self.assertEqual(archive[3], keep_of(archive[2], data, day))


if __name__ == "__main__":
    unittest.main()
