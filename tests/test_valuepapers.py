"""[17]: value papers and their checker."""

import random
import unittest

from askrights.bases import basis_of
from askrights.errors import InvalidPaper
from askrights.kinds import is_fraction, is_row
from askrights.moduli import modulus_of, possible_values
from askrights.rowsums import add_rows, scale_row
from askrights.valuechecker import lets_value
from askrights.valuepapers import value_paper
from tests.helpers import (A0, A1, ANY_VALUES, B0, B1, CELLS, CHAIN, SUM, both_ways, chain, paper_fault, random_cases,
                           random_row, some_data_has, total, values_of)

ONE = ((1, 1),)
NO = ((0, 1),)
SWAP = ((A0, 1), (B0, -1))
X = ((A0, 1),)


class ValuePapers(unittest.TestCase):
    def check_paper(self, rows, values, question):
        paper = both_ways(self, value_paper, rows=rows, values=values, question=question)
        found = both_ways(self, lets_value, rows=rows, values=values, question=question, thing=paper)
        self.assertEqual(found, possible_values(rows, values, question))
        self.assertIs(paper[0] == "none", found is None)
        self.assertEqual(len(paper[1]), len(rows))
        self.assertTrue(all(is_fraction(one) for one in paper[1]))
        if paper[0] == "value":
            self.assertEqual(found[1], modulus_of(rows, question))
            self.assertTrue(is_row(paper[2]) and is_row(paper[3]) and len(paper) == 4)
        else:
            self.assertTrue(paper[0] == "none" and len(paper) == 2)
        return paper

    def test_example(self):
        self.assertEqual(lets_value(CHAIN, (5, 7), X, value_paper(CHAIN, (5, 7), X)), (2, 9))

    def test_values_of_data(self):
        for rows, question, source in random_cases(30, 300):
            data = random_row(source, CELLS[:7], source.choice((3, 10 ** 6)))
            self.assertEqual(self.check_paper(rows, values_of(rows, data), question)[0], "value")

    def test_any_values(self):
        words = []
        for rows, question, source in random_cases(31, 300, most_rows=3, most_cells=4):
            values = tuple(source.randint(-6, 6) for one in rows)
            words.append(self.check_paper(rows, values, question)[0])
            self.assertIs(words[-1] == "value", some_data_has(rows, values))
        self.assertGreater(words.count("none"), 30)

    def test_edges(self):
        self.assertEqual(self.check_paper((), (), ()), ("value", (), (), ()))
        self.assertEqual(self.check_paper(((), ()), (0, 0), ())[0], "value")
        self.assertEqual(self.check_paper(((), ()), (0, -1), ())[0], "none")
        self.assertEqual(self.check_paper((), (), ((A0, 4), (B1, 6)))[2], ((A0, 2), (B1, 3)))
        self.assertEqual(self.check_paper((SUM,), (7,), SUM), ("value", ONE, (), ()))
        self.assertEqual(self.check_paper((((A0, 2),),), (3,), ()), ("none", ((1, 2),)))

    def test_great_rows(self):
        source = random.Random(32)
        for many, size in ((12, 3), (12, 10 ** 6), (16, 10 ** 60 - 1)):
            rows = tuple(random_row(source, CELLS, size) for k in range(many))
            values = values_of(rows, random_row(source, CELLS, 10 ** 6))
            inside = total([source.randint(-9, 9) for one in rows], rows)
            for question in (basis_of(rows)[0], ((CELLS[8], 1),), add_rows(inside, ((CELLS[2], 10 ** 6),))):
                self.assertEqual(self.check_paper(rows, values, question)[0], "value")
            self.assertEqual(self.check_paper(rows + rows[:1], values + (values[0] + 1,), inside)[0], "none")
            doubled = tuple(scale_row(one, 2) for one in rows)
            self.assertEqual(self.check_paper(doubled, tuple(2 * k for k in values), inside)[0], "value")
            self.assertEqual(self.check_paper(doubled, tuple(2 * k + 1 for k in values), inside)[0], "none")

    def test_chains(self):
        for length, factor in ((8, 3), (8, 2), (13, 3)):
            values = tuple(range(-4, length - 4))
            paper = self.check_paper(chain(length, factor), values, X)
            self.assertEqual(lets_value(chain(length, factor), values, X, paper)[1], factor ** length)


class ValueChecker(unittest.TestCase):
    def fault(self, rows, values, question, thing):
        return paper_fault(self, InvalidPaper, lets_value, rows=rows, values=values, question=question, thing=thing)

    def lets(self, rows, values, question, thing):
        return both_ways(self, lets_value, rows=rows, values=values, question=question, thing=thing)

    def test_examples(self):
        self.assertIsNone(lets_value((((A0, 2),),), (3,), X, ("none", ((1, 2),))))

    def test_accepted(self):
        self.assertEqual(self.lets((SUM,), (-7,), SUM, ("value", ONE, (), ())), (-7, 0))
        self.assertEqual(self.lets((SUM,), (-7,), X, ("value", NO, X, SWAP)), (0, 1))
        self.assertEqual(self.lets((SUM,), (-7,), X, ("value", ONE, ((B0, -1),), SWAP)), (0, 1))
        self.assertEqual(self.lets((SUM,), (-7,), ((A0, 4), (B0, 1)), ("value", ONE, X, SWAP)), (2, 3))
        self.assertEqual(self.lets((SUM,), (5,), ((A0, 4), (B0, 1)), ("value", ((4, 1),), ((B0, -1),), SWAP)), (2, 3))
        self.assertEqual(self.lets((((A0, 2),),), (6,), X, ("value", ((1, 2),), (), ())), (3, 0))
        self.assertIsNone(self.lets((SUM, SUM), (1, 2), X, ("none", ((1, 3), (-1, 3)))))

    def test_a_paper_may_show_v_for_values_that_no_data_has(self):
        self.assertEqual(self.lets((((A0, 2),),), (3,), ((A0, 2),), ("value", ONE, (), ())), (3, 0))

    def test_any_value(self):
        other = [("value", ()), ("value", (), ()), ("value", (), (), (), ()), ("none", (), (), ()), ("none", (), ()),
                 ["none", ()], ("none", []), ("value", [], (), ()), ("value", (), [], ()), ("value", (), (), []),
                 ("none", ((2, 4),)), ("none", ((0, 2),)), ("none", ((True, 1),)), ("value", NO, ((A0, 0),), ()),
                 ("value", NO, (), ((A0, True),)), ("value", NO, (), ((B0, 1), (A0, 1))), ("value", None, (), ()),
                 (None, NO), (True, NO, (), ()), ("lost", NO, (), ()), ("answer", NO), ("value", ONE[0], (), ())]
        for thing in ANY_VALUES + other:
            self.assertEqual(self.fault((SUM,), (1,), X, thing), ("shape", -1), thing)

    def test_shape_comes_first(self):
        self.assertEqual(self.fault((), (), X, ("none", ((1, 1), (2, 2)))), ("shape", -1))
        self.assertEqual(self.fault((), (), X, ("value", ((1, 1),), (), 5)), ("shape", -1))

    def test_many(self):
        for thing in (("none", ()), ("none", ONE + ONE), ("value", (), (), ()), ("value", ONE + ONE, X, X)):
            self.assertEqual(self.fault((SUM,), (1,), SUM, thing), ("many", -1))
        self.assertEqual(self.fault((), (), (), ("none", ONE)), ("many", -1))
        self.assertEqual(self.fault((), (), (), ("value", ((1, 2),), (), ())), ("many", -1))

    def test_row(self):
        half = ((1, 2),)
        self.assertEqual(self.fault((SUM,), (1,), SUM, ("none", half)), ("row", -1))
        self.assertEqual(self.fault((SUM,), (1,), SUM, ("value", half, X, X)), ("row", -1))
        self.assertEqual(self.fault((((A0, 2), (B0, 1)),), (1,), (), ("none", half)), ("row", -1))
        self.assertEqual(self.fault((SUM, X), (1, 1), (), ("none", half + half)), ("row", -1))

    def test_number(self):
        rows = (((A0, 2),),)
        self.assertEqual(self.fault(rows, (3,), X, ("value", ((1, 2),), (), ())), ("number", -1))
        self.assertEqual(self.fault(rows, (3,), X, ("value", ((1, 2),), X, X)), ("number", -1))
        self.assertEqual(self.fault(rows, (4,), X, ("none", ((1, 2),))), ("number", -1))
        self.assertEqual(self.fault(rows, (4,), X, ("none", NO)), ("number", -1))
        self.assertEqual(self.fault((), (), X, ("none", ())), ("number", -1))

    def test_rest(self):
        self.assertEqual(self.fault((SUM,), (3,), SUM, ("value", ONE, X, ())), ("rest", -1))
        self.assertEqual(self.fault((SUM,), (3,), X, ("value", ONE, X, ())), ("rest", -1))

    def test_notices(self):
        rows = (SUM, ((A1, 1),), ((B0, 2),))
        sums = NO * 3
        self.assertEqual(self.fault(rows, (3, 4, 6), X, ("value", sums, X, X)), ("notices", 0))
        self.assertEqual(self.fault(rows, (3, 4, 6), X, ("value", sums, X, ((A0, 1), (A1, 2), (B0, -1)))), ("notices", 1))
        self.assertEqual(self.fault(rows, (3, 4, 6), X, ("value", sums, X, SWAP)), ("notices", 2))
        self.assertEqual(self.fault(rows, (3, 4, 6), (), ("value", sums, X, ((B0, 5),))), ("notices", 0))

    def test_effect(self):
        self.assertEqual(self.fault((SUM,), (3,), SUM, ("value", ONE, (), SWAP)), ("effect", -1))
        self.assertEqual(self.fault((SUM,), (3,), ((B0, 1),), ("value", NO, ((B0, 1),), SWAP)), ("effect", -1))
        self.assertEqual(self.fault((SUM,), (3,), SUM, ("value", ONE, (), ((B1, 1),))), ("effect", -1))

    def test_question(self):
        self.assertEqual(self.fault((SUM,), (3,), X, ("value", ONE, (), ())), ("question", -1))
        self.assertEqual(self.fault((SUM,), (3,), X, ("value", NO, (), SWAP)), ("question", -1))
        self.assertEqual(self.fault((SUM,), (3,), X, ("value", ONE, X, SWAP)), ("question", -1))
        wide = ((A0, 4), (B0, 1), (B1, 3))
        self.assertEqual(self.fault((SUM,), (3,), wide, ("value", ONE, X, SWAP)), ("question", -1))
        self.assertEqual(self.lets((SUM,), (3,), wide, ("value", ONE, ((A0, 1), (B1, 1)), SWAP)), (0, 3))

    def test_an_accepted_paper_is_right(self):
        accepted = 0
        for rows, question, source in random_cases(33, 200, most_rows=2, most_cells=3, size=2):
            values = tuple(source.randint(-2, 2) for one in rows)
            for k in range(60):
                fractions = tuple(source.choice(((0, 1), (1, 1), (-1, 1), (1, 2), (2, 1))) for one in rows)
                rest, change = random_row(source, CELLS[:3], 1), random_row(source, CELLS[:3], 1)
                for thing in (("none", fractions), ("value", fractions, rest, change), ("value", fractions, (), ())):
                    try:
                        found = lets_value(rows, values, question, thing)
                    except InvalidPaper:
                        continue
                    accepted += 1
                    if thing[0] == "none":
                        self.assertIs(some_data_has(rows, values), False)
                    elif some_data_has(rows, values):
                        self.assertEqual(found, possible_values(rows, values, question))
        self.assertGreater(accepted, 100)


if __name__ == "__main__":
    unittest.main()
