"""[3], [11]: sums, multiples, parts, values and effects."""

import random
import unittest

from askrights.kinds import is_row
from askrights.rowsums import add_rows, effect_of, part_of, row_value, scale_row
from tests.helpers import A0, A1, B0, B1, CELLS, SUM, both_ways, random_row

FOUR = ((A0, 1), (A1, -2), (B0, 3), (B1, 10 ** 59))


class RowSums(unittest.TestCase):
    def setUp(self):
        source = random.Random(11)
        self.rows = [(), SUM, FOUR] + [random_row(source, CELLS, size) for size in (1, 2, 3, 10 ** 60 - 1) * 3]
        self.source = source

    def test_examples(self):
        self.assertEqual(add_rows(SUM, ((A0, -1), (B1, 2))), ((("b", 0), 1), (("b", 1), 2)))
        self.assertEqual(scale_row(SUM, -2), ((("a", 0), -2), (("b", 0), -2)))
        self.assertEqual(part_of(((A0, 1), (A1, 1), (B0, 1)), last_day=0), ((("a", 0), 1), (("b", 0), 1)))
        self.assertEqual(row_value(SUM, ((A0, 5), (B0, -2), (B1, 9))), 3)
        self.assertEqual(effect_of(((A0, 1), (B0, -1)), SUM), 0)

    def test_sums(self):
        for one in self.rows:
            self.assertEqual(both_ways(self, add_rows, one=one, other=()), one)
            self.assertEqual(add_rows((), one), one)
            self.assertEqual(add_rows(one, scale_row(one, -1)), ())
            self.assertEqual(add_rows(one, one), scale_row(one, 2))
            for other in self.rows:
                found = both_ways(self, add_rows, one=one, other=other)
                self.assertIs(is_row(found), True)
                self.assertEqual(found, add_rows(other, one))
                weights = dict(one)
                for cell, weight in other:
                    weights[cell] = weights.get(cell, 0) + weight
                self.assertEqual(dict(found), {cell: weight for cell, weight in weights.items() if weight})

    def test_sums_leave_out_what_cancels(self):
        self.assertEqual(add_rows(((A0, 2), (A1, 5), (B0, 1)), ((A0, -2), (B0, -1))), ((A1, 5),))
        self.assertEqual(add_rows(((B0, 1),), ((A0, 1), (B1, 1))), ((A0, 1), (B0, 1), (B1, 1)))

    def test_multiples(self):
        for one in self.rows:
            self.assertEqual(both_ways(self, scale_row, row=one, factor=0), ())
            self.assertEqual(scale_row(one, 1), one)
            for factor in (-1, 3, -(10 ** 60 - 1)):
                found = both_ways(self, scale_row, row=one, factor=factor)
                self.assertIs(is_row(found), True)
                self.assertEqual(found, tuple((cell, weight * factor) for cell, weight in one))

    def test_parts(self):
        self.assertEqual(part_of(FOUR), FOUR)
        self.assertEqual(part_of(FOUR, last_day=None, accounts=None), FOUR)
        self.assertEqual(part_of(FOUR, accounts=()), ())
        self.assertEqual(part_of(FOUR, last_day=5, accounts=()), ())
        self.assertEqual(part_of(FOUR, accounts=("b",)), FOUR[2:])
        self.assertEqual(part_of(FOUR, accounts=("a", "c")), FOUR[:2])
        self.assertEqual(part_of(FOUR, accounts=("c",)), ())
        self.assertEqual(part_of(FOUR, last_day=0), (FOUR[0], FOUR[2]))
        self.assertEqual(part_of(FOUR, last_day=1), FOUR)
        self.assertEqual(part_of(FOUR, last_day=0, accounts=("b",)), (FOUR[2],))
        self.assertEqual(part_of((), last_day=0, accounts=("b",)), ())
        self.assertEqual(part_of(row=FOUR, accounts=("b",), last_day=0), (FOUR[2],))

    def test_options_of_parts_are_keyword_only(self):
        with self.assertRaises(TypeError):
            part_of(FOUR, 0)

    def test_parts_are_exactly_the_pairs_with_these_days_and_accounts(self):
        for one in self.rows:
            for last_day in (None, 0, 4, 9, 20):
                for accounts in (None, (), ("a",), ("b", "c"), ("a", "b", "c"), ("ab",)):
                    kept = [(cell, weight) for cell, weight in one
                            if (last_day is None or cell[1] <= last_day) and (accounts is None or cell[0] in accounts)]
                    self.assertEqual(part_of(one, last_day=last_day, accounts=accounts), tuple(kept))

    def test_values(self):
        self.assertEqual(row_value((), ((A0, 5),)), 0)
        self.assertEqual(row_value(SUM, ()), 0)
        self.assertEqual(row_value(SUM, ((A1, 5),)), 0)
        self.assertEqual(row_value(FOUR, ((A0, 7), (A1, 2), (B0, -1))), 0)
        self.assertEqual(row_value(((A1, -3),), ((A0, 1), (A1, 10 ** 6))), -3 * 10 ** 6)
        for one in self.rows:
            for data in self.rows:
                value = both_ways(self, row_value, row=one, data=data)
                self.assertEqual(value, sum(weight * dict(data).get(cell, 0) for cell, weight in one))

    def test_the_value_of_a_sum_is_the_sum_of_the_values(self):
        for one in self.rows:
            for other in self.rows:
                data = random_row(self.source, CELLS, 10 ** 6)
                both = row_value(one, data) + row_value(other, data)
                self.assertEqual(row_value(add_rows(one, other), data), both)
                self.assertEqual(row_value(scale_row(one, -7), data), -7 * row_value(one, data))

    def test_effects(self):
        self.assertEqual(effect_of((), SUM), 0)
        self.assertEqual(effect_of(SUM, ()), 0)
        self.assertEqual(effect_of(((A1, 4),), SUM), 0)
        self.assertEqual(effect_of(((A0, 4), (B0, 5)), ((A0, -1), (B0, 2), (B1, 9))), 6)
        for one in self.rows:
            for other in self.rows:
                found = both_ways(self, effect_of, change=one, row=other)
                self.assertEqual(found, effect_of(other, one))
                self.assertEqual(found, sum(weight * dict(other).get(cell, 0) for cell, weight in one))


if __name__ == "__main__":
    unittest.main()
