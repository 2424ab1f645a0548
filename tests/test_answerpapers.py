"""[14]: answer papers and their checker."""

import random
import unittest

from askrights.answerchecker import lets_answer
from askrights.answerpapers import answer_paper
from askrights.bases import basis_of
from askrights.errors import InvalidPaper
from askrights.kinds import is_fraction, is_row
from askrights.spans import in_span
from tests.helpers import (A0, A1, ANY_VALUES, B0, B1, CELLS, SUM, both_ways, chain, paper_fault, random_cases,
                           random_row)

LOST = ("lost", ((A0, 1), (B0, -1)))


class AnswerPapers(unittest.TestCase):
    def check_paper(self, rows, question):
        paper = both_ways(self, answer_paper, rows=rows, question=question)
        self.assertIsInstance(paper, tuple)
        word = both_ways(self, lets_answer, rows=rows, question=question, thing=paper)
        self.assertEqual(word, paper[0])
        self.assertEqual(word, "answer" if in_span(rows, question) else "lost")
        if word == "answer":
            self.assertEqual(len(paper[1]), len(rows))
            self.assertTrue(all(is_fraction(one) for one in paper[1]))
        else:
            self.assertIs(is_row(paper[1]), True)
        return paper

    def fault(self, rows, question, thing):
        return paper_fault(self, InvalidPaper, lets_answer, rows=rows, question=question, thing=thing)

    def test_examples(self):
        self.assertEqual(answer_paper((((A0, 2),),), ((A0, 3),)), ("answer", ((3, 2),)))
        self.assertEqual(lets_answer((SUM,), ((A0, 1),), LOST), "lost")

    def test_no_rows_zero_rows_and_the_zero_question(self):
        self.assertEqual(self.check_paper((), ()), ("answer", ()))
        self.assertEqual(self.check_paper(((), ()), ()), ("answer", ((0, 1), (0, 1))))
        self.assertEqual(self.check_paper((SUM,), ()), ("answer", ((0, 1),)))
        self.assertEqual(self.check_paper((), SUM)[0], "lost")
        self.assertEqual(self.check_paper(((), ()), SUM)[0], "lost")

    def test_small_cases(self):
        for rows, question, source in random_cases(2, 400):
            self.check_paper(rows, question)
            for one in rows + basis_of(rows):
                self.assertEqual(self.check_paper(rows, one)[0], "answer")

    def test_great_rows(self):
        source = random.Random(3)
        for many, size in ((16, 10 ** 60 - 1), (16, 3), (9, 10 ** 6)):
            rows = tuple(random_row(source, CELLS, size) for k in range(many))
            self.assertEqual(self.check_paper(rows, basis_of(rows)[many // 2])[0], "answer")
            self.assertEqual(self.check_paper(basis_of(rows), rows[0])[0], "answer")
            self.assertEqual(self.check_paper(rows, ((CELLS[4], 1),))[0], "lost")

    def test_chains(self):
        rows = chain(16, 3)
        self.assertEqual(self.check_paper(rows, ((CELLS[0], 1), (CELLS[16], -3 ** 16)))[0], "answer")
        self.assertEqual(self.check_paper(rows, ((CELLS[0], 1),))[0], "lost")

    def test_any_value_has_a_shape_or_none(self):
        for thing in ANY_VALUES:
            self.assertEqual(self.fault((SUM,), ((A0, 1),), thing), ("shape", -1), thing)

    def test_shape_comes_first(self):
        self.assertEqual(self.fault((), (), ("answer", ((1, 1), (2, 4)))), ("shape", -1))
        self.assertEqual(self.fault((SUM,), (), ("lost", ((A0, 1), (A0, 1)))), ("shape", -1))
        self.assertEqual(self.fault((SUM,), SUM, ("answer", SUM)), ("shape", -1))
        self.assertEqual(self.fault((SUM,), SUM, ("lost", ((1, 1),))), ("shape", -1))
        self.assertEqual(self.fault((SUM,), SUM, ["answer", ((1, 1),)]), ("shape", -1))
        self.assertEqual(self.fault((SUM,), SUM, ("answer", [(1, 1)])), ("shape", -1))

    def test_many(self):
        self.assertEqual(self.fault((SUM,), SUM, ("answer", ())), ("many", -1))
        self.assertEqual(self.fault((SUM,), SUM, ("answer", ((1, 1), (0, 1)))), ("many", -1))
        self.assertEqual(self.fault((), (), ("answer", ((0, 1),))), ("many", -1))
        self.assertEqual(self.fault((), SUM, ("answer", ((0, 1),))), ("many", -1))

    def test_sum(self):
        self.assertEqual(self.fault((SUM,), SUM, ("answer", ((2, 1),))), ("sum", -1))
        self.assertEqual(self.fault((SUM,), SUM, ("answer", ((0, 1),))), ("sum", -1))
        self.assertEqual(self.fault((SUM,), SUM, ("answer", ((1, 2),))), ("sum", -1))
        self.assertEqual(self.fault((SUM,), (), ("answer", ((1, 10 ** 59),))), ("sum", -1))
        self.assertEqual(self.fault((), SUM, ("answer", ())), ("sum", -1))
        self.assertEqual(self.fault((SUM,), ((A0, 1), (B0, 1), (B1, 1)), ("answer", ((1, 1),))), ("sum", -1))

    def test_sums_of_fractions(self):
        rows = (((A0, 1), (A1, 1)), ((A0, 1), (A1, -1)))
        self.assertEqual(lets_answer(rows, ((A0, 1),), ("answer", ((1, 2), (1, 2)))), "answer")
        self.assertEqual(lets_answer(rows + rows, (), ("answer", ((1, 2), (0, 1), (-1, 2), (0, 1)))), "answer")
        self.assertEqual(lets_answer((SUM, SUM), SUM, ("answer", ((1, 6), (5, 6)))), "answer")
        self.assertEqual(lets_answer((SUM, SUM), SUM, ("answer", ((-1, 3), (4, 3)))), "answer")

    def test_notices(self):
        rows = (SUM, ((A1, 1),), ((B0, 2),))
        self.assertEqual(self.fault(rows, ((A0, 1),), ("lost", ((A0, 1),))), ("notices", 0))
        self.assertEqual(self.fault(rows, ((A0, 1),), ("lost", ((A1, 1),))), ("notices", 1))
        self.assertEqual(self.fault(rows, ((A0, 1),), LOST), ("notices", 2))
        self.assertEqual(self.fault(rows, (), ("lost", ((A1, 3), (B0, 1)))), ("notices", 0))

    def test_effect(self):
        self.assertEqual(self.fault((SUM,), SUM, LOST), ("effect", -1))
        self.assertEqual(self.fault((SUM,), ((A0, 1),), ("lost", ())), ("effect", -1))
        self.assertEqual(self.fault((), (), ("lost", ())), ("effect", -1))
        self.assertEqual(self.fault((), ((A0, 1),), ("lost", ((A1, 1),))), ("effect", -1))

    def test_an_accepted_paper_is_right(self):
        for rows, question, source in random_cases(4, 150):
            for k in range(20):
                fractions = tuple((source.randint(-2, 2), 1) for one in rows)
                change = random_row(source, CELLS[:6], 2)
                for thing in (("answer", fractions), ("lost", change)):
                    try:
                        word = lets_answer(rows, question, thing)
                    except InvalidPaper:
                        continue
                    self.assertEqual(word == "answer", in_span(rows, question))


if __name__ == "__main__":
    unittest.main()
