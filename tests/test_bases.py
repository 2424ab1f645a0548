"""[4], [12], [13]: basis, rank, span and coordinates."""

import random
import unittest

from askrights.bases import basis_of, coordinates_in
from askrights.kinds import are_rows, is_integer
from askrights.rowsums import add_rows, scale_row
from askrights.spans import in_span, rank_of
from tests.helpers import (A0, A1, B0, B1, CELLS, SUM, both_ways, cells_in, chain, minor_gcd, plain_rank, random_cases,
                           random_row, row, total, weight)


class Bases(unittest.TestCase):
    def check_form(self, basis):
        """The part of [4] that speaks of the rows of the basis alone."""
        self.assertIs(are_rows(basis), True)
        self.assertNotIn((), basis)
        firsts = [one[0] for one in basis]
        self.assertEqual([cell for cell, number in firsts], sorted({cell for cell, number in firsts}))
        for at, (cell, number) in enumerate(firsts):
            self.assertGreater(number, 0)
            for earlier in basis[:at]:
                self.assertTrue(0 <= weight(earlier, cell) < number)

    def check_basis(self, rows):
        """The whole of [4]; the minors tell whether all rows of the span are sums of integer multiples."""
        basis = both_ways(self, basis_of, rows=rows)
        self.check_form(basis)
        self.assertEqual(len(basis), plain_rank(rows))
        self.assertEqual(plain_rank(rows + basis), len(basis))
        self.assertEqual(minor_gcd(basis, cells_in(*rows)), 1)
        self.assertEqual(both_ways(self, rank_of, rows=rows), len(basis))
        return basis

    def test_examples(self):
        self.assertEqual(basis_of((((A0, 1), (B0, 5)), ((B0, 2), (B1, 1)))),
                         (((("a", 0), 1), (("b", 0), 1), (("b", 1), -2)), ((("b", 0), 2), (("b", 1), 1))))
        self.assertEqual(coordinates_in((((A0, 2),),), ((A0, -3),)), (-3,))
        self.assertEqual(rank_of((SUM, (), ((A0, 2), (B0, 2)))), 1)
        self.assertIs(in_span((((A0, 2),),), ((A0, 1),)), True)

    def test_no_rows_and_zero_rows(self):
        for rows in ((), ((),), ((), (), ())):
            self.assertEqual(self.check_basis(rows), ())
            self.assertEqual(rank_of(rows), 0)
            self.assertIs(both_ways(self, in_span, rows=rows, row=()), True)
            self.assertIs(both_ways(self, in_span, rows=rows, row=SUM), False)
            self.assertEqual(both_ways(self, coordinates_in, rows=rows, row=()), ())
            self.assertIsNone(both_ways(self, coordinates_in, rows=rows, row=SUM))

    def test_repeated_rows_and_multiples(self):
        for rows in ((SUM, SUM), (SUM, scale_row(SUM, -3)), (scale_row(SUM, 6), scale_row(SUM, 10)), (scale_row(SUM, -4),)):
            self.assertEqual(self.check_basis(rows), (SUM,))

    def test_saturation_by_a_sum_of_halves(self):
        rows = (((A0, 1), (A1, 1)), ((A0, 1), (A1, -1)))
        self.assertEqual(self.check_basis(rows), (((A0, 1),), ((A1, 1),)))
        self.assertEqual(self.check_basis((((A0, 3), (B0, 1)), ((A1, 3), (B0, 1)))),
                         (((A0, 1), (A1, 2), (B0, 1)), ((A1, 3), (B0, 1))))

    def test_small_cases(self):
        for rows, question, source in random_cases(1, 300):
            basis = self.check_basis(rows)
            self.assertEqual(basis_of(basis), basis)
            mixed = list(rows) + list(rows[:1])
            source.shuffle(mixed)
            self.assertEqual(basis_of(tuple(mixed)), basis)
            self.check_member(rows, basis, question)
            inside = total([source.randint(-9, 9) for one in basis], basis)
            self.assertIs(in_span(rows, inside), True)
            self.check_member(rows, basis, inside)

    def check_member(self, rows, basis, question):
        """The equivalences of [12] and [13] for one question."""
        inside = both_ways(self, in_span, rows=rows, row=question)
        coordinates = both_ways(self, coordinates_in, rows=rows, row=question)
        self.assertIs(inside, plain_rank(rows + (question,)) == len(basis))
        self.assertIs(inside, basis_of(rows + (question,)) == basis)
        self.assertIs(inside, coordinates is not None)
        for factor in (-1, 2, 7, -12):
            self.assertIs(in_span(rows, scale_row(question, factor)), inside)
        if inside:
            self.assertIsInstance(coordinates, tuple)
            self.assertEqual(len(coordinates), len(basis))
            self.assertTrue(all(is_integer(number) for number in coordinates))
            self.assertEqual(total(coordinates, basis), question)

    def test_a_great_weight_needs_no_exact_quotient(self):
        rows = (((A0, 2), (A1, 1)),)
        self.assertIsNone(coordinates_in(rows, ((A0, 3),)))
        self.assertIsNone(coordinates_in(rows, ((A0, 3), (A1, 1))))
        self.assertEqual(coordinates_in(rows, ((A0, -6), (A1, -3))), (-3,))
        self.assertIsNone(coordinates_in(rows, ((A0, 2), (A1, 1), (B1, 1))))
        self.assertIsNone(coordinates_in(rows, ((B1, 5),)))

    def test_chains(self):
        for length in (1, 2, 5, 8, 13, 16, 29):
            for factor in (3, -3, 2):
                rows = chain(length, factor)
                basis = both_ways(self, basis_of, rows=rows)
                self.check_form(basis)
                self.assertEqual(rank_of(rows), length)
                self.assertEqual(basis_of(tuple(reversed(rows))), basis)
                self.assertEqual(basis_of(basis), basis)
                self.assertEqual([weight(one, CELLS[k]) for k, one in enumerate(basis)], [1] * length)
                ends = ((CELLS[0], 1), (CELLS[length], -(-factor) ** length))
                self.assertIs(in_span(rows, ends), True)
                self.assertIs(in_span(rows, ((CELLS[0], 1),)), False)
                self.assertEqual(total(coordinates_in(rows, ends), basis), ends)

    def test_chain_from_the_end(self):
        rows = tuple(((CELLS[k], 3), (CELLS[k + 1], 1)) for k in range(3))
        self.assertEqual(self.check_basis(rows), rows)
        self.assertEqual(basis_of((total((1, 1), rows), total((1, -1), rows), rows[2])), rows)

    def test_great_rows(self):
        source = random.Random(7)
        for many, size in ((16, 3), (16, 10 ** 60 - 1), (12, 10 ** 6), (3, 10 ** 60 - 1)):
            rows = tuple(random_row(source, CELLS, size) for k in range(many))
            basis = both_ways(self, basis_of, rows=rows)
            self.check_form(basis)
            self.assertEqual(len(basis), many)
            self.assertEqual(basis_of(basis), basis)
            self.assertEqual(basis_of(tuple(reversed(rows)) + basis[:2]), basis)
            for one in rows:
                self.assertEqual(total(coordinates_in(rows, one), basis), one)
            for one in basis:
                self.assertIs(in_span(rows, one), True)
            self.assertIs(in_span(rows, ((CELLS[0], 1),)), False)
            self.assertIsNone(coordinates_in(rows, ((CELLS[0], 1),)))

    def test_more_rows_than_cells(self):
        source = random.Random(8)
        rows = tuple(random_row(source, CELLS[:5], 9) for k in range(16))
        self.assertEqual(basis_of(rows), tuple(((cell, 1),) for cell in CELLS[:5]))

    def test_rows_without_a_common_cell(self):
        source = random.Random(9)
        for case in range(40):
            left = tuple(random_row(source, CELLS[0:8:2], 4) for k in range(source.randint(0, 3)))
            right = tuple(random_row(source, CELLS[1:8:2], 4) for k in range(source.randint(0, 3)))
            both = sorted(basis_of(left) + basis_of(right), key=lambda one: one[0][0])
            self.assertEqual(basis_of(left + right), tuple(both))

    def test_the_basis_depends_only_on_the_span(self):
        rows = (row(2, 4, 1), row(0, 3, -5, 2))
        others = (add_rows(rows[0], rows[1]), scale_row(rows[1], -4), add_rows(rows[0], scale_row(rows[1], 9)))
        self.assertEqual(basis_of(rows), basis_of(others))


if __name__ == "__main__":
    unittest.main()
