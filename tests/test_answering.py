"""[38], [8] (G2): the answers of an archive."""

import random
import unittest

from askrights.answering import answer_from, can_answer
from askrights.answerpapers import answer_paper
from askrights.archives import archive_rows, first_archive
from askrights.errors import ArchiveError, NotAnswerable
from askrights.steps import done
from tests.helpers import A0, A1, B0, B1, SUM, both_ways, effect, random_row, total
from tests.righthelpers import ARCHIVE, PlainArchive, plain_span, random_history, sample_archives

A2 = ("a", 2)


class Answering(unittest.TestCase):
    def lost(self, archive, row):
        self.assertIs(both_ways(self, can_answer, archive=archive, row=row), False)
        for call in (lambda: answer_from(archive, row), lambda: answer_from(archive=archive, row=row)):
            with self.assertRaises(NotAnswerable) as caught:
                call()
            self.assertIsInstance(caught.exception, ArchiveError)
            self.assertIs(caught.exception.row, row)

    def answer(self, archive, row):
        self.assertIs(both_ways(self, can_answer, archive=archive, row=row), True)
        return both_ways(self, answer_from, archive=archive, row=row)

    def test_examples(self):
        self.assertIs(can_answer(ARCHIVE, ((A0, 1),)), False)
        self.assertEqual(answer_from(ARCHIVE, ((A0, 1), (A1, 2), (B0, 1))), 11)
        with self.assertRaises(NotAnswerable) as caught:
            answer_from(ARCHIVE, ((A0, 1),))
        self.assertEqual(caught.exception.row, ((("a", 0), 1),))

    def test_answers(self):
        self.assertEqual(self.answer(ARCHIVE, ()), 0)
        self.assertEqual(self.answer(ARCHIVE, SUM), 7)
        self.assertEqual(self.answer(ARCHIVE, ((A0, -3), (B0, -3))), -21)
        self.assertEqual(self.answer(ARCHIVE, ((A1, 5),)), 10)
        self.assertEqual(self.answer(ARCHIVE, ((A1, 5), (B1, 10 ** 60))), 10 - 10 ** 60)
        self.assertEqual(self.answer(first_archive(("a",)), ()), 0)
        self.assertEqual(self.answer(first_archive(("a",)), ((A0, 3),)), 0)

    def test_lost_rows(self):
        for row in (((B0, 1),), ((A0, 1), (B0, 2)), ((A0, 2), (B0, 1), (B1, 4)), ((A0, 10 ** 59), (B0, 10 ** 59 - 1))):
            self.lost(ARCHIVE, row)

    def test_other_accounts_and_days(self):
        for row in (((("c", 0), 1),), ((("c", 1), 1),), ((A2, 1),), ((A1, 1), (A2, 1)), ((A0, 1), (B0, 1), (("c", 0), 1)),
                    ((("a", 10 ** 50), 1),), ((A0, 1), (B0, 1), (("b", 2), -1)), ((("ab", 1), 1),)):
            self.lost(ARCHIVE, row)
        self.lost(first_archive(("a",), today=1), ((A0, 1),))

    def test_fractions_of_rows(self):
        kept = ((((A0, 1), (B0, 1), (B1, 1)), 7), (((A1, 1), (B0, 2)), 9))
        archive = (("a", "b"), 2, (), kept, (("a", 0), ("b", 0)))
        self.assertEqual(self.answer(archive, ((A0, -2), (A1, 1), (B1, -2))), -5)
        self.assertEqual(self.answer(archive, ((A0, 1), (A1, -1), (B0, -1), (B1, 1), (A2, 8))[:4]), -2)
        self.lost(archive, ((A0, 1), (B0, 1)))

    def test_samples(self):
        found = {True: 0, False: 0}
        for archive, source in sample_archives(range(400, 430)):
            rows = archive_rows(archive)
            values = [value for row, value in archive[3]] + [value for account, value in archive[4]]
            for k in range(3):
                factors = [source.randint(-3, 3) for row in rows]
                wanted = sum(factor * value for factor, value in zip(factors, values))
                self.assertEqual(self.answer(archive, total(factors, rows)), wanted)
                row = random_row(source, sorted({cell for one in rows for cell, number in one}), 2, 0.3)
                found[plain_span(rows, row)] += 1
                if not plain_span(rows, row):
                    self.lost(archive, row)
                    # Two sets of data with the same values of all rows give different answers.
                    word, change = answer_paper(rows, row)
                    self.assertEqual([effect(change, one) for one in rows], [0] * len(rows))
                    self.assertNotEqual(effect(change, row), 0)
        self.assertTrue(min(found.values()) > 10, found)

    def test_the_complete_data(self):
        asked = 0
        for seed in range(430, 460):
            accounts, tried = random_history(seed)
            plain = PlainArchive(accounts)
            archive = first_archive(accounts)
            source = random.Random(seed)
            for step, word in tried:
                if word is None:
                    plain.do(step)
                    archive = done(archive, step)
            for k in range(10):
                row = total([source.randint(-2, 2) for one in plain.rows()], plain.rows())
                self.assertEqual(self.answer(archive, row), plain.value(row))
                asked += row != ()
        self.assertGreater(asked, 200)


if __name__ == "__main__":
    unittest.main()
