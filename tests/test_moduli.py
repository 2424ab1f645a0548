"""[7], [15], [16], [21]: moduli and possible values."""

import random
import unittest
from math import gcd

from askrights.bases import basis_of
from askrights.kinds import is_integer
from askrights.moduli import modulus_of, possible_values
from askrights.rowsums import add_rows, scale_row
from askrights.spans import in_span
from tests.helpers import (A0, A1, B0, B1, CELLS, CHAIN, SUM, both_ways, chain, effect, plain_modulus, random_cases,
                           random_row, some_data_has, total, values_of)


def modulus_is_multiple(new, old):
    return new == 0 if old == 0 else new % old == 0


class Moduli(unittest.TestCase):
    def modulus(self, rows, question):
        found = both_ways(self, modulus_of, rows=rows, question=question)
        self.assertIs(is_integer(found), True)
        self.assertGreaterEqual(found, 0)
        return found

    def test_examples(self):
        self.assertEqual(modulus_of(CHAIN, ((A0, 1),)), 9)
        self.assertEqual(possible_values(CHAIN, (5, 7), ((A0, 1),)), (2, 9))

    def test_example_21(self):
        x1, x2, x3 = ("x", 1), ("x", 2), ("x", 3)
        rows = (((x1, 1), (x2, 3)), ((x2, 1), (x3, 3)))
        self.assertEqual(modulus_of(rows, ((x1, 1),)), 9)
        self.assertEqual(possible_values(rows, (5, 7), ((x1, 1),)), (2, 9))

    def test_no_rows_and_zero_rows(self):
        for rows in ((), ((),), ((), ())):
            self.assertEqual(self.modulus(rows, ()), 0)
            self.assertEqual(self.modulus(rows, SUM), 1)
            self.assertEqual(self.modulus(rows, ((A0, 6), (B1, -10))), 2)
            self.assertEqual(self.modulus(rows, ((A0, -10 ** 59),)), 10 ** 59)

    def test_repeated_rows(self):
        for rows in (CHAIN, CHAIN + CHAIN, CHAIN + ((),) + CHAIN[:1], tuple(reversed(CHAIN))):
            self.assertEqual(self.modulus(rows, ((A0, 1),)), 9)
            self.assertEqual(self.modulus(rows, ((A1, 1),)), 3)
            self.assertEqual(self.modulus(rows, ((B0, 1),)), 1)
            self.assertEqual(self.modulus(rows, CHAIN[0]), 0)

    def test_great_moduli(self):
        for length, factor in ((8, 3), (8, 2), (13, 3), (16, 3), (29, -3), (16, -2)):
            rows = chain(length, factor)
            for at in (0, 1, length // 2, length):
                self.assertEqual(self.modulus(rows, ((CELLS[at], 1),)), abs(factor) ** (length - at))
            ends = ((CELLS[0], 1), (CELLS[length], -(-factor) ** length))
            self.assertEqual(self.modulus(rows, ends), 0)
            self.assertEqual(self.modulus(rows, ((CELLS[0], 5), (CELLS[length], 1))),
                             abs(1 + 5 * (-factor) ** length))

    def test_small_cases(self):
        for rows, question, source in random_cases(15, 300):
            found = self.modulus(rows, question)
            self.assertEqual(found, plain_modulus(rows, question))
            self.assertIs(found == 0, in_span(rows, question))

    def test_consequences(self):
        for rows, question, source in random_cases(16, 150):
            found = modulus_of(rows, question)
            basis = basis_of(rows)
            inside = total([source.randint(-5, 5) for one in basis], basis)
            self.assertEqual(modulus_of(rows, inside), 0)
            self.assertEqual(modulus_of(rows, add_rows(question, inside)), found)
            self.assertEqual(modulus_of(basis, question), found)
            for factor in (0, 1, -1, 2, -6, 10 ** 20):
                self.assertEqual(modulus_of(rows, scale_row(question, factor)), abs(factor) * found)
            more = rows + (random_row(source, CELLS[:6], 4),)
            self.assertTrue(modulus_is_multiple(modulus_of(more, question), found))
            self.assertTrue(modulus_is_multiple(modulus_of(rows + (question,), question), found))

    def test_other_cells(self):
        source = random.Random(17)
        for case in range(60):
            rows = tuple(random_row(source, CELLS[:5], 4) for k in range(source.randint(0, 4)))
            question = scale_row(random_row(source, CELLS[5:9], 9), source.randint(1, 6))
            self.assertEqual(self.modulus(rows, question), gcd(*[weight for cell, weight in question]))

    def test_the_question_is_a_row_of_the_span_and_multiples(self):
        tried = 0
        for rows, question, source in random_cases(18, 150):
            found, basis = modulus_of(rows, question), basis_of(rows)
            if found > 1 and found ** len(basis) <= 3000:
                tried += 1
                self.assertTrue(any(all(weight % found == 0 for cell, weight in add_rows(question, one))
                                    for one in self.small_sums(basis, found)))
        self.assertGreater(tried, 10)

    def small_sums(self, basis, limit):
        """All sums of the rows of the basis with factors from 0 to limit - 1."""
        sums = [()]
        for one in basis:
            sums = [add_rows(before, scale_row(one, factor)) for before in sums for factor in range(limit)]
        return sums

    def test_great_rows(self):
        source = random.Random(19)
        for many, size in ((12, 3), (12, 10 ** 6), (16, 10 ** 60 - 1)):
            rows = tuple(random_row(source, CELLS, size) for k in range(many))
            inside = total([source.randint(-9, 9) for one in rows], rows)
            for factor in (1, 12, 10 ** 6 + 3):
                question = add_rows(inside, ((CELLS[0], factor), (CELLS[29], 5 * factor)))
                found = self.modulus(rows, question)
                self.assertEqual(found % factor, 0)
                self.assertEqual(found, factor * modulus_of(rows, ((CELLS[0], 1), (CELLS[29], 5))))


class PossibleValues(unittest.TestCase):
    def possible(self, rows, values, question):
        return both_ways(self, possible_values, rows=rows, values=values, question=question)

    def check_data(self, rows, data, question):
        """The pair follows from the value in any data that has the values."""
        modulus = modulus_of(rows, question)
        value = effect(question, data)
        expected = (value, 0) if modulus == 0 else (value % modulus, modulus)
        self.assertEqual(self.possible(rows, values_of(rows, data), question), expected)

    def test_values_of_data(self):
        for rows, question, source in random_cases(20, 300):
            for size in (3, 10 ** 6):
                self.check_data(rows, random_row(source, CELLS[:7], size), question)

    def test_great_rows(self):
        source = random.Random(21)
        for many, size in ((12, 3), (12, 10 ** 6), (5, 10 ** 60 - 1)):
            rows = tuple(random_row(source, CELLS, size) for k in range(many))
            data = random_row(source, CELLS, 10 ** 6)
            questions = [rows[1], basis_of(rows)[2], ((CELLS[3], 1),), (), random_row(source, CELLS, 3)]
            questions.append(add_rows(scale_row(rows[0], -2), ((CELLS[3], -30), (CELLS[9], 70))))
            for question in questions:
                self.check_data(rows, data, question)

    def test_any_values(self):
        for rows, question, source in random_cases(22, 300, most_rows=3, most_cells=4):
            values = tuple(source.randint(-6, 6) for one in rows)
            found = self.possible(rows, values, question)
            self.assertIs(found is not None, some_data_has(rows, values))
            if found is not None:
                self.assertIsInstance(found, tuple)
                self.assertEqual(found[1], modulus_of(rows, question))
                self.assertTrue(found[1] == 0 or 0 <= found[0] < found[1])

    def test_values_that_no_data_has(self):
        self.assertIsNone(self.possible((((A0, 2),),), (3,), ((A0, 1),)))
        self.assertIsNone(self.possible((((A0, 2),),), (3,), ((B0, 1),)))
        self.assertIsNone(self.possible(((),), (1,), ()))
        self.assertIsNone(self.possible((SUM, SUM), (1, 2), ()))
        self.assertIsNone(self.possible((SUM, scale_row(SUM, 2)), (1, 3), SUM))
        halves = (((A0, 1), (A1, 1)), ((A0, 1), (A1, -1)))
        self.assertIsNone(self.possible(halves, (1, 2), ((A0, 1),)))
        self.assertEqual(self.possible(halves, (1, 3), ((A0, 1),)), (2, 0))

    def test_edges(self):
        self.assertEqual(self.possible((), (), ()), (0, 0))
        self.assertEqual(self.possible((), (), SUM), (0, 1))
        self.assertEqual(self.possible((), (), ((A0, -4), (B0, 6))), (0, 2))
        self.assertEqual(self.possible(((),), (0,), ((A0, 3),)), (0, 3))
        self.assertEqual(self.possible((SUM, SUM), (-5, -5), SUM), (-5, 0))
        self.assertEqual(self.possible((((A0, 2),),), (-6,), ((A0, 1),)), (-3, 0))
        self.assertEqual(self.possible((SUM,), (-5,), ((A0, 1), (B0, 4))), (1, 3))
        self.assertEqual(self.possible((SUM,), (-10 ** 6,), ((A0, 1), (B0, 8))), (-10 ** 6 % 7, 7))
        self.assertEqual(self.possible((((A0, 1), (B0, 10)),), (-3,), ((A0, 1),)), (7, 10))

    def test_chains(self):
        for length, factor in ((8, 3), (8, 2), (13, 3)):
            rows = chain(length, factor)
            data = tuple((cell, 10 ** 6 - 7 * k) for k, cell in enumerate(CELLS[:length + 1]))
            self.check_data(rows, data, ((CELLS[0], 1),))
            self.check_data(rows, data, ((CELLS[0], -1),))
            self.check_data(rows, data, ((CELLS[1], 2), (CELLS[2], 1)))


if __name__ == "__main__":
    unittest.main()
