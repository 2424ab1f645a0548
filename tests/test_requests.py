"""[39], [40], [41]: requested rows, request papers and their checker."""

import unittest
from fractions import Fraction

from askrights.archives import archive_rows, first_archive
from askrights.errors import InvalidPaper, PaperError
from askrights.futures import future_rows
from askrights.kinds import is_fraction, is_row
from askrights.questions import question_on
from askrights.requestchecker import lets_request
from askrights.requests import request_paper, request_rows
from askrights.steps import barred_by
from tests.helpers import A0, A1, ANY_VALUES, B0, B1, both_ways, effect, paper_fault, total
from tests.righthelpers import (ARCHIVE, SIXTY, mutants, plain_question, plain_span, random_right, right_of,
                                sample_archives)

A_TOTAL = ("cy", (("a", 1),), 2, 2, ("total", 0))
SUM_TOTAL = ("cy", (("a", 2), ("b", 2)), 2, 2, ("total", 0))
WIDE_TOTAL = ("cy", (("a", 2), ("b", 2)), 0, 3, ("total", 0))
TWO = ((2, 1), (2, 1), (2, 1))
SWAP = ((A0, 1), (B0, -1))
ZERO = ((0, 1), (0, 1), (0, 1))


def plain_rows(archive, right):
    return tuple(plain_question(right, day, archive[1]) for day in range(right[2], right[3] + 1) if day >= archive[1])


def has_shape(thing):
    if not isinstance(thing, tuple) or len(thing) not in (2, 3):
        return False
    if len(thing) == 2:
        return (thing[0] == "granted" and isinstance(thing[1], tuple)
                and all(isinstance(one, tuple) and all(is_fraction(pair) for pair in one) for one in thing[1]))
    index = isinstance(thing[1], int) and not isinstance(thing[1], bool) and thing[1] >= 0
    return thing[0] == "refused" and index and is_row(thing[2])


def plain_lets(archive, right, thing):
    """The word of the paper, or the first reason of [41]."""
    if not has_shape(thing):
        return ("shape", -1)
    rows, requested = archive_rows(archive), plain_rows(archive, right)
    if thing[0] == "granted":
        if len(thing[1]) != len(requested):
            return ("many", -1)
        for i, (fractions, row) in enumerate(zip(thing[1], requested)):
            if len(fractions) != len(rows):
                return ("fractions", i)
            if total([Fraction(*pair) for pair in fractions], rows) != row:
                return ("sum", i)
    else:
        if thing[1] >= len(requested):
            return ("index", -1)
        noticing = [k for k, row in enumerate(rows) if effect(thing[2], row) != 0]
        if noticing:
            return ("row", noticing[0])
        if effect(thing[2], requested[thing[1]]) == 0:
            return ("request", -1)
    return thing[0]


class Requests(unittest.TestCase):
    def rows(self, archive, right):
        return both_ways(self, request_rows, archive=archive, right=right)

    def paper(self, archive, right):
        paper = both_ways(self, request_paper, archive=archive, right=right)
        self.assertIsInstance(paper, tuple)
        self.assertEqual(both_ways(self, lets_request, archive=archive, right=right, thing=paper), paper[0])
        self.assertEqual(plain_lets(archive, right, paper), paper[0])
        return paper

    def test_examples(self):
        self.assertEqual(request_rows(ARCHIVE, ("cy", (("a", 2),), 1, 3, ("window", 2))),
                         (((("a", 0), 2), (("a", 1), 2)), ((("a", 1), 2),), ()))
        self.assertEqual(request_paper(ARCHIVE, ("cy", (("a", 1),), 2, 2, ("total", 0)))[0], "refused")

    def test_rows(self):
        self.assertEqual(self.rows(ARCHIVE, right_of(("total", 0), 0, 0)), ())
        self.assertEqual(self.rows(ARCHIVE, right_of(("total", 0), 0, 1)), (((A0, 1), (A1, 1)),))
        self.assertEqual(self.rows(ARCHIVE, right_of(("total", 0), 1, 3)), (((A0, 1), (A1, 1)),) * 3)
        self.assertEqual(self.rows(ARCHIVE, right_of(("total", 0), 3, 3)), (((A0, 1), (A1, 1)),))
        self.assertEqual(self.rows(ARCHIVE, right_of(("total", 2), 0, 3)), ((), (), ()))
        self.assertEqual(self.rows(ARCHIVE, right_of(("window", 1), 0, 2)), (((A1, 1),), ()))
        self.assertEqual(self.rows(ARCHIVE, right_of(("window", 9), 1, 2)), (((A0, 1), (A1, 1)),) * 2)
        self.assertEqual(self.rows(ARCHIVE, right_of(("period", 0, 0), 1, 2)), (((A0, 1),),) * 2)
        self.assertEqual(self.rows(ARCHIVE, right_of(("period", 1, 5), 1, 2)), (((A1, 1),),) * 2)
        self.assertEqual(self.rows(first_archive(("a",)), right_of(("total", 0), 0, 1)), (((A0, 1),),) * 2)

    def test_rows_of_today_and_of_later_days(self):
        for archive, source in sample_archives(range(500, 530)):
            right = random_right(source, archive[0], 0, 11)
            found = self.rows(archive, right)
            self.assertEqual(found, plain_rows(archive, right))
            later = list(found)
            if right[2] <= archive[1] <= right[3]:
                self.assertEqual(later.pop(0), question_on(right, archive[1]))
            self.assertEqual(tuple(sorted(set(later) - {()})), future_rows((("r", right),), archive[1]))

    def test_papers(self):
        self.assertEqual(self.paper(ARCHIVE, SUM_TOTAL), ("granted", (TWO,)))
        self.assertEqual(self.paper(ARCHIVE, right_of(("total", 0), 0, 0)), ("granted", ()))
        self.assertEqual(self.paper(ARCHIVE, right_of(("total", 5), 1, 2)), ("granted", (ZERO, ZERO)))
        refused = self.paper(ARCHIVE, right_of(("window", 2), 1, 3))
        self.assertEqual(refused[:2], ("refused", 0))
        self.assertEqual(self.paper(first_archive(("a",)), right_of(("total", 0), 0, 1)), ("granted", (((1, 1),),) * 2))
        self.assertEqual(self.paper(first_archive(("a",)), right_of(("window", 1), 0, 1, (("b", 1),)))[0], "refused")

    def test_papers_of_samples(self):
        words = {}
        for archive, source in sample_archives(range(530, 600)):
            right = random_right(source, archive[0], min(archive[1], 9) if source.random() < 0.7 else 0, 10)
            paper = self.paper(archive, right)
            rows = archive_rows(archive)
            can = all(plain_span(rows, row) for row in plain_rows(archive, right))
            self.assertEqual(paper[0], "granted" if can else "refused")
            words[paper[0]] = words.get(paper[0], 0) + 1
            if archive[1] <= right[3]:
                self.assertEqual(barred_by(archive, ("grant", "fresh", right)), None if can else "lost")
        self.assertTrue(min(words["granted"], words["refused"]) > 30, words)


class RequestChecker(unittest.TestCase):
    def lets(self, right, thing, archive=ARCHIVE):
        return both_ways(self, lets_request, archive=archive, right=right, thing=thing)

    def fault(self, right, thing, archive=ARCHIVE):
        return paper_fault(self, InvalidPaper, lets_request, archive=archive, right=right, thing=thing)

    def test_examples(self):
        self.assertEqual(lets_request(ARCHIVE, ("cy", (("a", 2), ("b", 2)), 2, 2, ("total", 0)),
                                      ("granted", (((2, 1), (2, 1), (2, 1)),))), "granted")
        self.assertEqual(lets_request(ARCHIVE, ("cy", (("a", 1),), 2, 2, ("total", 0)),
                                      ("refused", 0, ((A0, 1), (B0, -1)))), "refused")
        with self.assertRaises(PaperError) as caught:
            lets_request(ARCHIVE, ("cy", (("a", 1),), 2, 2, ("total", 0)), ("refused", 0, ((A0, 1),)))
        self.assertEqual((caught.exception.word, caught.exception.at), ("row", 0))

    def test_any_value(self):
        other = [("granted",), ("granted", None), ("granted", []), ("granted", ([],)), ("granted", (TWO[0],)),
                 ("granted", TWO), ("granted", ((2, 4),)), ("granted", (((2, 4),),)), ("granted", (([1, 1],),)),
                 ("granted", (((True, 1),),)), ("granted", (), ()), ["granted", ()], ("refused", 0), ("refused", (), 0),
                 ("refused", -1, SWAP), ("refused", True, SWAP), ("refused", False, SWAP), ("refused", 0, [SWAP]),
                 ("refused", 0, list(SWAP)), ("refused", 0, SWAP[::-1]), ("refused", 0, ((A0, 0),)), ("refused", 0, SWAP, 0),
                 ["refused", 0, SWAP], ("granted", 0, SWAP), ("refused", (TWO,)), (None, (TWO,)), (None, 0, SWAP),
                 ("refused", None, SWAP), ("refused", (0,), SWAP), ("answer", TWO), ("lost", SWAP)]
        for right in (SUM_TOTAL, A_TOTAL):
            for thing in ANY_VALUES + other:
                self.assertEqual(self.fault(right, thing), ("shape", -1), thing)

    def test_shape_comes_first(self):
        self.assertEqual(self.fault(SUM_TOTAL, ("granted", ((), TWO, ((1, 0),)))), ("shape", -1))
        self.assertEqual(self.fault(SUM_TOTAL, ("refused", 99, ((A0, 1), (A0, 1)))), ("shape", -1))

    def test_many(self):
        self.assertEqual(self.fault(SUM_TOTAL, ("granted", ())), ("many", -1))
        self.assertEqual(self.fault(SUM_TOTAL, ("granted", (TWO, TWO))), ("many", -1))
        self.assertEqual(self.fault(SUM_TOTAL, ("granted", ((), ()))), ("many", -1))
        self.assertEqual(self.fault(right_of(("total", 0), 0, 0), ("granted", (ZERO,))), ("many", -1))
        self.assertEqual(self.lets(right_of(("total", 0), 0, 0), ("granted", ())), "granted")
        self.assertEqual(self.lets(WIDE_TOTAL, ("granted", (TWO,) * 3)), "granted")

    def test_fractions_and_sums(self):
        self.assertEqual(self.fault(SUM_TOTAL, ("granted", ((),))), ("fractions", 0))
        self.assertEqual(self.fault(SUM_TOTAL, ("granted", (TWO[:2],))), ("fractions", 0))
        self.assertEqual(self.fault(SUM_TOTAL, ("granted", (TWO + TWO[:1],))), ("fractions", 0))
        self.assertEqual(self.fault(SUM_TOTAL, ("granted", (ZERO,))), ("sum", 0))
        self.assertEqual(self.fault(SUM_TOTAL, ("granted", (((2, 1), (2, 1), (3, 2)),))), ("sum", 0))
        self.assertEqual(self.fault(SUM_TOTAL, ("granted", (((2, 1), (1, 1), (1, 1)),))), ("sum", 0))
        # The first index counts, and within an index the number of fractions comes first.
        self.assertEqual(self.fault(WIDE_TOTAL, ("granted", (TWO, ZERO, TWO[:1]))), ("sum", 1))
        self.assertEqual(self.fault(WIDE_TOTAL, ("granted", (TWO, TWO[:1], ZERO))), ("fractions", 1))
        self.assertEqual(self.fault(WIDE_TOTAL, ("granted", (TWO, TWO, ZERO[:1]))), ("fractions", 2))
        self.assertEqual(self.fault(WIDE_TOTAL, ("granted", (TWO, TWO, ZERO))), ("sum", 2))
        self.assertEqual(self.lets(right_of(("total", 5), 1, 2), ("granted", (ZERO, ZERO))), "granted")

    def test_index(self):
        self.assertEqual(self.fault(A_TOTAL, ("refused", 1, SWAP)), ("index", -1))
        self.assertEqual(self.fault(A_TOTAL, ("refused", SIXTY, ((A0, 1),))), ("index", -1))
        self.assertEqual(self.fault(right_of(("total", 0), 0, 0), ("refused", 0, SWAP)), ("index", -1))
        three = right_of(("total", 0), 1, 3)
        self.assertEqual([self.lets(three, ("refused", k, SWAP)) for k in range(3)], ["refused"] * 3)
        self.assertEqual(self.fault(three, ("refused", 3, SWAP)), ("index", -1))

    def test_row(self):
        self.assertEqual(self.fault(A_TOTAL, ("refused", 0, ((A0, 1), (A1, 1)))), ("row", 0))
        self.assertEqual(self.fault(A_TOTAL, ("refused", 0, ((A0, 1), (A1, 1), (B0, -1)))), ("row", 1))
        self.assertEqual(self.fault(A_TOTAL, ("refused", 0, ((A0, 1), (B0, -1), (B1, 3)))), ("row", 2))
        self.assertEqual(self.fault(SUM_TOTAL, ("refused", 0, ((A1, 1), (B1, 3)))), ("row", 1))

    def test_request(self):
        self.assertEqual(self.fault(SUM_TOTAL, ("refused", 0, SWAP)), ("request", -1))
        self.assertEqual(self.fault(A_TOTAL, ("refused", 0, ())), ("request", -1))
        self.assertEqual(self.fault(A_TOTAL, ("refused", 0, ((("c", 0), 1),))), ("request", -1))
        window = right_of(("window", 2), 1, 3)
        self.assertEqual(self.lets(window, ("refused", 0, SWAP)), "refused")
        self.assertEqual(self.fault(window, ("refused", 1, SWAP)), ("request", -1))
        self.assertEqual(self.fault(window, ("refused", 2, SWAP)), ("request", -1))

    def check_changed(self, archive, right, paper, found):
        """Compare all changes of the paper with the plain checker."""
        for thing in mutants(paper, (None, True, 0, 1, -1, "granted", "refused", (), [], (0, 1), (1, 2), (2, 4))):
            wanted = plain_lets(archive, right, thing)
            if isinstance(wanted, str):
                self.assertEqual(lets_request(archive, right, thing), wanted)
                found[wanted] = found.get(wanted, 0) + 1
            else:
                with self.assertRaises(InvalidPaper) as caught:
                    lets_request(archive, right, thing)
                self.assertEqual((caught.exception.word, caught.exception.at), wanted, thing)
                found[wanted[0]] = found.get(wanted[0], 0) + 1

    def test_changed_papers(self):
        found = {}
        for right in (A_TOTAL, SUM_TOTAL, WIDE_TOTAL, right_of(("window", 2), 1, 3)):
            self.check_changed(ARCHIVE, right, request_paper(ARCHIVE, right), found)
        for archive, source in sample_archives(range(600, 612), 1):
            right = random_right(source, archive[0], 0, 10)
            self.check_changed(archive, right, request_paper(archive, right), found)
        for word in ("shape", "many", "fractions", "sum", "index", "row", "request", "granted", "refused"):
            self.assertGreater(found.get(word, 0), 0, (word, found))

    def test_parts_exchanged(self):
        window = right_of(("window", 2), 1, 3)
        archive = (("a",), 1, (), ((((A0, 1),), 4),), (("a", 2),))
        paper = request_paper(archive, window)
        self.assertEqual(paper[0], "granted")
        self.assertEqual(self.fault(window, ("granted", paper[1][::-1]), archive), ("sum", 0))
        self.assertEqual(self.fault(window, ("granted", (paper[1][0], paper[1][2], paper[1][1])), archive), ("sum", 1))
        self.assertEqual(self.fault(window, ("granted", (paper[1][0][::-1],) + paper[1][1:][::-1]), archive), ("sum", 1))


if __name__ == "__main__":
    unittest.main()
