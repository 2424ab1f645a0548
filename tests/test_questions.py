"""[5], [25]: questions, future rows and needed rows."""

import random
import unittest

from askrights.futures import future_rows, needed_rows
from askrights.kinds import is_row
from askrights.questions import question_on
from askrights.rowsums import add_rows, part_of
from askrights.spans import in_span
from tests.helpers import A0, A1, B0, B1, both_ways
from tests.righthelpers import (PERIOD, RIGHTS, TOTAL, WINDOW, plain_future, plain_needed, plain_question,
                                random_right, random_rights, right_of)

A2, A3 = ("a", 2), ("a", 3)


def named(*rights):
    return tuple(("abcdefgh"[at], right) for at, right in enumerate(rights))


class Questions(unittest.TestCase):
    def ask(self, right, day):
        return both_ways(self, question_on, right=right, day=day)

    def test_examples(self):
        self.assertEqual(question_on(WINDOW, 2), ((("a", 1), 1), (("a", 2), 1)))
        self.assertIs(question_on(WINDOW, 0), None)

    def test_first_and_last_day_of_use(self):
        for kind in (("total", 0), ("window", 3), ("period", 0, 9)):
            right = right_of(kind, 2, 5)
            self.assertEqual([self.ask(right, day) is None for day in range(8)],
                             [True, True, False, False, False, False, True, True])
            self.assertIsNotNone(self.ask(right_of(kind, 4, 4), 4))
            self.assertIsNone(self.ask(right_of(kind, 4, 4), 3))
            self.assertIsNone(self.ask(right_of(kind, 4, 4), 5))

    def test_totals(self):
        right = right_of(("total", 1))
        self.assertEqual(self.ask(right, 0), ())
        self.assertEqual(self.ask(right, 1), ((A1, 1),))
        self.assertEqual(self.ask(right, 3), ((A1, 1), (A2, 1), (A3, 1)))
        self.assertEqual(self.ask(right_of(("total", 100)), 9), ())

    def test_windows_do_not_reach_below_day_0(self):
        right = right_of(("window", 3))
        self.assertEqual(self.ask(right, 0), ((A0, 1),))
        self.assertEqual(self.ask(right, 1), ((A0, 1), (A1, 1)))
        self.assertEqual(self.ask(right, 2), ((A0, 1), (A1, 1), (A2, 1)))
        self.assertEqual(self.ask(right, 3), ((A1, 1), (A2, 1), (A3, 1)))
        self.assertEqual(self.ask(right_of(("window", 1)), 3), ((A3, 1),))
        self.assertEqual(self.ask(right_of(("window", 10 ** 60)), 1), ((A0, 1), (A1, 1)))

    def test_periods(self):
        right = right_of(("period", 1, 2))
        self.assertEqual(self.ask(right, 0), ())
        self.assertEqual(self.ask(right, 1), ((A1, 1),))
        self.assertEqual(self.ask(right, 2), ((A1, 1), (A2, 1)))
        self.assertEqual(self.ask(right, 9), ((A1, 1), (A2, 1)))
        self.assertEqual(self.ask(right_of(("period", 0, 10 ** 60)), 1), ((A0, 1), (A1, 1)))

    def test_several_accounts(self):
        self.assertEqual(self.ask(TOTAL, 2), ((A0, 1), (A1, 1), (A2, 1), (B0, -1), (B1, -1), (("b", 2), -1)))
        self.assertEqual(self.ask(PERIOD, 2), ((A2, 2), (("b", 2), 1), (("c", 2), -3)))

    def test_many_rights(self):
        source = random.Random(50)
        for case in range(400):
            right = random_right(source)
            for day in range(11):
                found = self.ask(right, day)
                if right[2] <= day <= right[3]:
                    self.assertEqual(found, plain_question(right, day))
                    self.assertIs(is_row(found), True)
                else:
                    self.assertIsNone(found)


class Futures(unittest.TestCase):
    def future(self, rights, day):
        return both_ways(self, future_rows, rights=rights, day=day)

    def needed(self, rights, day):
        return both_ways(self, needed_rows, rights=rights, day=day)

    def test_examples(self):
        self.assertEqual(future_rows(RIGHTS, 1), ((((("a", 0), 1), (("a", 1), 1), (("b", 0), -1), (("b", 1), -1))),
                                                  ((("a", 1), 1),)))
        self.assertEqual(needed_rows((("r", WINDOW),), 2), (((("a", 1), 1), (("a", 2), 1)), ((("a", 2), 1),)))

    def test_no_rights(self):
        self.assertEqual(self.future((), 3), ())
        self.assertEqual(self.needed((), 3), ())

    def test_before_the_first_day_of_use(self):
        self.assertEqual(self.future(named(right_of(("total", 0), 3, 4)), 0), (((A0, 1),),))
        self.assertEqual(self.needed(named(right_of(("total", 0), 3, 4)), 0), (((A0, 1),),))
        self.assertEqual(self.future(named(right_of(("window", 2), 3, 4)), 0), ())
        self.assertEqual(self.future(named(right_of(("window", 2), 3, 4)), 2), (((A2, 1),),))
        self.assertEqual(self.future(named(right_of(("period", 1, 1), 3, 4)), 0), ())
        self.assertEqual(self.future(named(right_of(("period", 1, 1), 3, 4)), 2), (((A1, 1),),))

    def test_on_and_after_the_last_day_of_use(self):
        for kind in (("total", 0), ("window", 2), ("period", 0, 3)):
            right = right_of(kind, 1, 3)
            self.assertEqual(self.future(named(right), 3), ())
            self.assertEqual(self.needed(named(right), 3), (question_on(right, 3),))
            self.assertEqual(self.future(named(right), 4), ())
            self.assertEqual(self.needed(named(right), 4), ())

    def test_the_zero_row_is_left_out(self):
        late = right_of(("total", 8))
        self.assertEqual(self.future(named(late), 7), ())
        self.assertEqual(self.needed(named(late), 7), ())
        self.assertEqual(self.needed(named(late), 8), (((("a", 8), 1),),))
        self.assertEqual(self.needed(named(right_of(("period", 5, 6))), 4), ())

    def test_equal_rights_under_several_names(self):
        for right in (WINDOW, TOTAL, PERIOD):
            for day in range(10):
                self.assertEqual(self.future(named(right, right, right), day), self.future(named(right), day))
                self.assertEqual(self.needed(named(right, right), day), self.needed(named(right), day))

    def test_rows_that_several_rights_have(self):
        rights = named(right_of(("window", 3)), right_of(("window", 2)), right_of(("period", 3, 3)))
        self.assertEqual(self.future(rights, 3), (((A2, 1), (A3, 1)), ((A3, 1),)))
        self.assertEqual(self.needed(rights, 3), (((A1, 1), (A2, 1), (A3, 1)), ((A2, 1), (A3, 1)), ((A3, 1),)))

    def test_many_rights(self):
        source = random.Random(51)
        for case in range(300):
            rights = random_rights(source)
            for day in range(11):
                found = self.future(rights, day)
                self.assertEqual(found, plain_future(rights, day))
                self.assertEqual(self.needed(rights, day), plain_needed(rights, day))
                self.assertNotIn((), found + self.needed(rights, day))

    def test_days_of_use_without_end(self):
        far = 10 ** 60 - 1
        self.assertEqual(self.future(named(right_of(("total", 0), 0, far)), 1), (((A0, 1), (A1, 1)),))
        self.assertEqual(self.future(named(right_of(("window", far), 0, far - 1)), 1), (((A0, 1), (A1, 1)),))
        self.assertEqual(self.future(named(right_of(("window", far), 0, far)), 1), (((A0, 1), (A1, 1)), ((A1, 1),)))
        self.assertEqual(self.future(named(right_of(("window", 2), 0, far)), 1), (((A1, 1),),))
        self.assertEqual(self.needed(named(right_of(("period", 1, far), 0, far)), 1), (((A1, 1),),))

    def test_needed_rows_of_the_next_day_are_future_rows(self):
        source = random.Random(52)
        for case in range(100):
            rights = random_rights(source)
            for day in range(10):
                future = set(self.future(rights, day))
                for row in self.needed(rights, day + 1):
                    self.assertIn(part_of(row, last_day=day), future | {()})

    def test_a_question_is_the_sum_of_those_of_the_halves(self):
        source = random.Random(53)
        for case in range(100):
            right = random_right(source)
            halves = [right[:1] + (tuple(pair for pair in right[1] if (pair[0] == "b") == side),) + right[2:]
                      for side in (True, False)]
            for day in range(10):
                if question_on(right, day) is not None:
                    parts = [question_on(half, day) for half in halves]
                    self.assertEqual(add_rows(*parts), question_on(right, day))
                    self.assertIs(in_span(tuple(parts), question_on(right, day)), True)


if __name__ == "__main__":
    unittest.main()
