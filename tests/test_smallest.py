"""[18]: smallest papers and their checker."""

import random
import unittest

from askrights.bases import basis_of
from askrights.errors import InvalidPaper
from askrights.kinds import are_rows
from askrights.smallest import smallest_paper
from askrights.smallestchecker import lets_smallest
from tests.helpers import (A0, A1, ANY_VALUES, B0, B1, CELLS, SUM, both_ways, chain, paper_fault, plain_rank,
                           random_cases, random_row)

THREE = (SUM, ((A1, 1),), ((B0, 1), (B1, 1)))
A, B, C, D = ((A0, 1),), ((A1, 1),), ((B0, 1),), ((B1, 1),)


class SmallestPapers(unittest.TestCase):
    def check_paper(self, rows):
        paper = both_ways(self, smallest_paper, rows=rows)
        self.assertIs(are_rows(paper), True)
        self.assertEqual(both_ways(self, lets_smallest, rows=rows, thing=paper), len(rows))

    def fault(self, rows, thing):
        return paper_fault(self, InvalidPaper, lets_smallest, rows=rows, thing=thing)

    def test_examples(self):
        self.assertIsNone(smallest_paper((SUM, SUM)))
        self.assertEqual(lets_smallest((SUM, ((B0, 1),)), (((A0, 1),), ((B0, 1),))), 2)

    def test_edges(self):
        self.assertEqual(both_ways(self, smallest_paper, rows=()), ())
        self.assertEqual(both_ways(self, lets_smallest, rows=(), thing=()), 0)
        for rows in (((),), ((), SUM), (SUM, ()), (SUM, ((A0, 2), (B0, 2))), (SUM, A, C)):
            self.assertIsNone(both_ways(self, smallest_paper, rows=rows))
        self.check_paper((SUM,))
        self.check_paper((SUM, A))
        self.check_paper(THREE)

    def test_small_cases(self):
        for rows, question, source in random_cases(40, 300):
            if plain_rank(rows) == len(rows):
                self.check_paper(rows)
            else:
                self.assertIsNone(both_ways(self, smallest_paper, rows=rows))
            self.check_paper(basis_of(rows))

    def test_great_rows(self):
        source = random.Random(41)
        for many, size in ((16, 3), (16, 10 ** 60 - 1), (12, 10 ** 6)):
            rows = tuple(random_row(source, CELLS, size) for k in range(many))
            self.check_paper(rows)
            self.check_paper(basis_of(rows))
            self.assertIsNone(smallest_paper(rows + rows[2:3]))
        self.check_paper(chain(16, 3))

    def test_any_value(self):
        for thing in ANY_VALUES + [[], [A], (A, [B]), ((A0, 1),), (A, None), A, "", ((A, 1),)]:
            self.assertEqual(self.fault((SUM,), thing), ("shape", -1), thing)

    def test_shape_comes_first(self):
        self.assertEqual(self.fault(THREE, ((), (), (), 5)), ("shape", -1))
        self.assertEqual(self.fault((), (((A0, 0),),)), ("shape", -1))

    def test_many(self):
        for thing in ((), (A,), (A, B), (A, B, C, D), ((), (), (), ())):
            self.assertEqual(self.fault(THREE, thing), ("many", -1))
        self.assertEqual(self.fault((), ((),)), ("many", -1))

    def test_unnoticed_and_notices(self):
        self.assertEqual(lets_smallest(THREE, (A, B, C)), 3)
        self.assertEqual(lets_smallest(THREE, (A, B, D)), 3)
        self.assertEqual(self.fault(THREE, ((), B, C)), ("unnoticed", 0))
        self.assertEqual(self.fault(THREE, (B, B, C)), ("unnoticed", 0))
        self.assertEqual(self.fault(THREE, (A, A, C)), ("unnoticed", 1))
        self.assertEqual(self.fault(THREE, (A, B, A)), ("unnoticed", 2))
        self.assertEqual(self.fault(THREE, (C, (), ())), ("notices", (0, 2)))
        self.assertEqual(self.fault(THREE, (((A0, 1), (A1, 1), (B0, 1)), B, C)), ("notices", (0, 1)))
        self.assertEqual(self.fault(THREE, (A, ((A1, 1), (B1, 1)), ())), ("notices", (1, 2)))
        self.assertEqual(self.fault(THREE, (A, (), ())), ("unnoticed", 1))

    def test_earlier_rows_may_notice_a_change(self):
        self.assertEqual(lets_smallest((SUM, C), (A, ((A0, 5), (B0, 1)))), 2)

    def test_an_accepted_paper_is_right(self):
        for rows, question, source in random_cases(42, 100, most_rows=3, most_cells=3, size=2):
            for k in range(30):
                thing = tuple(random_row(source, CELLS[:3], 1) for one in rows)
                try:
                    found = lets_smallest(rows, thing)
                except InvalidPaper:
                    continue
                self.assertEqual(found, plain_rank(rows))


if __name__ == "__main__":
    unittest.main()
