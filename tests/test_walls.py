"""[7], [52] to [54], [8] (G3), (G6): walls, wall papers and their checker."""

import random
import unittest
from fractions import Fraction

from askrights.errors import AskError, InvalidPaper, PaperError
from askrights.histories import archives_of
from askrights.kinds import is_fraction, is_integer, is_name, is_row
from askrights.rowsums import scale_row
from askrights.wallchecker import wall_lets
from askrights.wallpapers import wall_paper
from askrights.walls import first_fall, stands, wall_has_form
from tests.helpers import (ANY_VALUES, CELLS, both_ways, chain, effect, paper_fault, plain_modulus, random_cases,
                           random_row, total)
from tests.righthelpers import PERSONS, SIXTY, mutants, random_right
from tests.test_knowing import (A, B, C, GRANTS, HISTORY, ONE, TODAY, TWO, WALL, few_rows, groups_of, plain_known,
                                plain_to_come, valid_history)

CHANGE = ((("a", 0), 9), (("b", 0), -3), (("c", 0), 1))
FALLS = ("falls", ((1, 1), (-3, 1)), ((("c", 0), 3),))
STANDS = ("stands", CHANGE)


def plain_form(thing):
    """Whether the value is a wall, by the words of the interface."""
    if not isinstance(thing, tuple) or len(thing) != 3 or not isinstance(thing[0], tuple) or len(thing[0]) == 0:
        return False
    group, question, m = thing
    if not all(is_name(name) for name in group) or list(group) != sorted(set(group)):
        return False
    return is_row(question) and is_integer(m) and (m == 0 or m >= 2)


def plain_stands(rows, question, m):
    g = plain_modulus(rows, question)
    return g != 0 if m == 0 else g != 0 and g % m != 0


def plain_lets(rows, question, m, thing):
    """The word of the paper, or the first reason of [54]."""
    if not isinstance(thing, tuple) or len(thing) not in (2, 3) or not isinstance(thing[0], str):
        return ("shape", -1)
    if len(thing) == 2:
        if thing[0] != "stands" or not is_row(thing[1]):
            return ("shape", -1)
        for k, row in enumerate(rows):
            if effect(thing[1], row) != 0:
                return ("row", k)
        hidden = effect(thing[1], question)
        return ("effect", -1) if hidden == 0 or (m > 1 and hidden % m == 0) else "stands"
    word, fractions, rest = thing
    if word != "falls" or not isinstance(fractions, tuple) or not all(is_fraction(one) for one in fractions):
        return ("shape", -1)
    if not is_row(rest):
        return ("shape", -1)
    if len(fractions) != len(rows):
        return ("many", -1)
    if m == 0 and rest != ():
        return ("rest", -1)
    whole = total([Fraction(*one) for one in fractions] + [m], list(rows) + [rest])
    return "falls" if whole == question else ("sum", -1)


class WallForms(unittest.TestCase):
    def form(self, thing):
        found = both_ways(self, wall_has_form, thing=thing)
        self.assertIs(found, plain_form(thing))
        return found

    def test_example(self):
        self.assertIs(wall_has_form((("ann",), A, 1)), False)

    def test_walls(self):
        for m in (0, 2, 3, 1000, 1001, SIXTY):
            self.assertIs(self.form((("ann", "bob"), ONE, m)), True)
        self.assertTrue(self.form((("ann",), (), 0)))
        self.assertTrue(self.form((tuple("abcdefg"), CHANGE, 2)))
        self.assertTrue(self.form((("ann",), (((("zz", SIXTY), -SIXTY)),), 0)))

    def test_no_walls(self):
        for m in (1, -1, -2, -SIXTY, True, False, None, "0", (), (2,)):
            self.assertIs(self.form((("ann",), A, m)), False)
        for group in ((), ("bob", "ann"), ("ann", "ann"), ["ann"], "ann", ("Ann",), ("",), (1,), ("abcdefghi",), None):
            self.assertIs(self.form((group, A, 0)), False)
        for question in (list(A), (("a", 0), 1), ((("a", 0), 0),), A + A, (B[0], A[0]), None, "-", ((("a", -1), 1),)):
            self.assertIs(self.form((("ann",), question, 0)), False)
        for thing in [list(WALL), WALL[:2], WALL + (0,), (WALL,), WALL[::-1]] + ANY_VALUES:
            self.assertIs(self.form(thing), False)

    def test_changed_walls(self):
        found = [self.form(thing) for wall in (WALL, (("ann",), CHANGE, 3)) for thing in mutants(wall)]
        self.assertTrue(True in found and False in found)


class Stands(unittest.TestCase):
    def stands(self, rows, question, m):
        return both_ways(self, stands, rows=rows, question=question, m=m)

    def test_examples(self):
        self.assertIs(stands((ONE, TWO), A, 0), True)
        self.assertIs(stands((ONE, TWO), A, 3), False)

    def test_divisors_and_multiples(self):
        # The modulus is 9.
        self.assertEqual([self.stands((ONE, TWO), A, m) for m in (2, 3, 4, 6, 9, 12, 18, 27, 1000)],
                         [True, False, True, True, False, True, True, True, True])
        # The modulus is 12: exactly its divisors let the wall fall.
        twelve = scale_row(A, 12)
        for m in range(2, 30):
            self.assertIs(self.stands((B,), twelve, m), m not in (2, 3, 4, 6, 12))

    def test_zero_row_and_no_rows(self):
        for m in (0, 2, 5, 1000):
            self.assertIs(self.stands((), (), m), False)
            self.assertIs(self.stands((ONE, ()), (), m), False)
            self.assertIs(self.stands((), A, m), True)
            self.assertIs(self.stands(((),), A, m), True)
            self.assertIs(self.stands((A, A), A, m), False)
            self.assertIs(self.stands((scale_row(A, SIXTY),), A, m), False)
        self.assertIs(self.stands((), scale_row(A, 4), 2), False)
        self.assertIs(self.stands((), scale_row(A, 4), 0), True)

    def test_long_chain(self):
        rows = chain(15, 2)
        question = ((CELLS[0], 1),)
        self.assertIs(self.stands(rows, question, 0), True)
        self.assertIs(self.stands(rows, question, 512), False)
        self.assertIs(self.stands(rows, question, 3), True)

    def test_random_rows(self):
        found = {}
        for rows, question, source in random_cases(91, 300):
            for m in (0, 2, 3, 4, 6, source.randint(2, 1000)):
                one = self.stands(rows, question, m)
                self.assertIs(one, plain_stands(rows, question, m))
                found[m == 0, one] = found.get((m == 0, one), 0) + 1
                if not one:
                    # Divisors of m fall with m, and every wall falls if the one with m = 0 does.
                    for divisor in (2, 3, 5, 7, 300):
                        if m % divisor == 0:
                            self.assertIs(stands(rows, question, divisor), False)
        self.assertTrue(len(found) == 4 and min(found.values()) > 20, found)


class FirstFall(unittest.TestCase):
    def fall(self, history, walls, request=None):
        found = first_fall(history=history, walls=walls, request=request)
        self.assertEqual(first_fall(history, walls, request=request), found)
        if request is None:
            self.assertEqual(first_fall(history, walls), found)
        return found

    def test_examples(self):
        self.assertTrue(first_fall(HISTORY, (("w", WALL),)) is None)
        self.assertEqual(first_fall(HISTORY, (("w", WALL),), request=("ann", (("c", 1),), 1, 1, TODAY)), "w")

    def test_request_is_keyword_only(self):
        with self.assertRaises(TypeError):
            first_fall(HISTORY, (), None)

    def test_the_first_one(self):
        low, high = (("ann", "bob"), A, 9), (("ann",), ONE, 0)
        self.assertIsNone(self.fall(HISTORY, ()))
        self.assertEqual(self.fall(HISTORY, (("a", WALL), ("b", low), ("c", high))), "b")
        self.assertEqual(self.fall(HISTORY, (("b", high), ("c", low))), "b")
        self.assertEqual(self.fall(HISTORY, (("a", WALL), ("z", (("cy",), (), 0)))), "z")
        self.assertIsNone(self.fall(HISTORY, (("a", WALL), ("b", (("cy",), ONE, 0)))))

    def test_rows_to_come(self):
        history = (("a", "b", "c"), GRANTS)
        self.assertEqual(self.fall(history, (("w", (("ann",), ONE, 0)),)), "w")
        self.assertIsNone(self.fall(history, (("w", (("bob",), ONE, 0)),)))
        self.assertIsNone(self.fall((history[0], GRANTS + (("end", "one"),)), (("w", (("ann",), ONE, 0)),)))

    def test_request(self):
        walls = (("v", (("ann", "bob"), A, 0)), ("w", (("bob",), C, 0)))
        self.assertIsNone(self.fall(HISTORY, walls))
        self.assertEqual(self.fall(HISTORY, walls, ("bob", (("c", 2),), 0, 9, TODAY)), "v")
        self.assertEqual(self.fall(HISTORY, walls[1:], ("bob", (("c", 2),), 0, 9, TODAY)), "w")
        self.assertIsNone(self.fall(HISTORY, walls, ("cy", (("c", 2),), 0, 9, TODAY)))
        # A request that is over, or that does not reach the day, adds nothing.
        self.assertIsNone(self.fall(HISTORY, walls, ("bob", (("c", 2),), 0, 0, TODAY)))
        self.assertIsNone(self.fall(HISTORY, walls, ("bob", (("c", 2),), 1, 5, ("window", 1))))
        self.assertIsNone(self.fall(HISTORY, walls, ("bob", (("c", 2),), 1, 5, ("window", 2))))
        # Whether the archive can answer the request does not matter.
        later = (HISTORY[0], HISTORY[1] + (("evening",),) * 3)
        self.assertEqual(self.fall(later, walls[1:], ("bob", (("c", 1),), 9, 9, TODAY)), "w")
        self.assertEqual(self.fall(later, walls[1:], ("bob", (("b", 1), ("c", 1)), 9, 9, TODAY)), "w")

    def test_arguments_are_unchanged(self):
        walls, request = (("w", WALL),), ("ann", (("c", 1),), 1, 1, TODAY)
        before = repr((HISTORY, walls, request))
        first_fall(HISTORY, walls, request=request)
        self.assertEqual(repr((HISTORY, walls, request)), before)

    def test_random_histories(self):
        found = {}
        for seed in range(150):
            history, plain = valid_history(seed, many=20, last_today=3, most_rights=3)
            source = random.Random(seed)
            last = archives_of(history)[-1]
            cells = [(account, day) for account in history[0] for day in range(4)]
            walls = tuple((name, (groups_of(source), random_row(source, cells, 3, 0.2), source.choice((0, 2, 3))))
                          for name in sorted(source.sample("vwxyz", source.randint(0, 3))))
            for request in (None, random_right(source, history[0], min(last[1], 4), 5)):
                named = last[2] + (() if request is None else (("x", request),))
                rows = {name: plain_known(plain, wall[0]) + plain_to_come(named, last[1], wall[0]) for name, wall in walls}
                if not all(few_rows(some) for some in rows.values()):
                    continue
                fallen = [name for name, wall in walls if not plain_stands(rows[name], wall[1], wall[2])]
                one = self.fall(history, walls, request)
                self.assertEqual(one, fallen[0] if fallen else None)
                key = (request is None, None if one is None else [name for name, wall in walls].index(one))
                found[key] = found.get(key, 0) + 1
        self.assertTrue(len(found) >= 6, found)

    def test_a_standing_wall_is_never_broken_by_evenings(self):
        for seed in range(40):
            history, plain = valid_history(seed, last_today=6)
            source = random.Random(seed)
            walls = tuple(("w" + person, ((person,), random_row(source, [(a, d) for a in history[0] for d in range(4)], 2, 0.3), 0))
                          for person in PERSONS)
            for name, wall in walls:
                if first_fall(history, ((name, wall),)) is None:
                    later = (history[0], history[1] + (("evening",), ("enter", history[0][0], 3)) * 4)
                    self.assertIsNone(first_fall(later, ((name, wall),)))


class WallPapers(unittest.TestCase):
    def paper(self, rows, question, m):
        paper = both_ways(self, wall_paper, rows=rows, question=question, m=m)
        word = both_ways(self, wall_lets, rows=rows, question=question, m=m, thing=paper)
        self.assertEqual(word, paper[0])
        self.assertEqual(plain_lets(rows, question, m, paper), word)
        self.assertIs(word == "stands", stands(rows, question, m))
        return paper

    def test_example(self):
        self.assertEqual(wall_paper((ONE, TWO), A, 3)[0], "falls")

    def test_edges(self):
        self.assertEqual(self.paper((), (), 0), ("falls", (), ()))
        self.assertEqual(self.paper((), (), 7), ("falls", (), ()))
        self.assertEqual(self.paper((), A, 0)[0], "stands")
        self.assertEqual(self.paper((), scale_row(A, -10), 5), ("falls", (), scale_row(A, -2)))
        self.assertEqual(self.paper((scale_row(A, 2), (), A, A), scale_row(A, 3), 0)[0], "falls")
        self.assertEqual(self.paper((ONE, TWO), A, 9)[0], "falls")
        self.assertEqual(self.paper((ONE, TWO), A, 27)[0], "stands")
        self.assertEqual(self.paper((scale_row(A, SIXTY),), A, 0)[0], "falls")
        self.assertEqual(self.paper((), scale_row(A, SIXTY), 3)[0], "falls")
        self.assertEqual(self.paper(chain(15, 10 ** 59), ((CELLS[0], 1),), 10 ** 60)[0], "falls")
        self.assertEqual(self.paper(chain(15, 10 ** 59), ((CELLS[0], 1),), 0)[0], "stands")

    def test_random_rows(self):
        words = {}
        for rows, question, source in random_cases(92, 250):
            for m in (0, 2, 3, 4, source.randint(2, 1000)):
                word = self.paper(rows, question, m)[0]
                words[m == 0, word] = words.get((m == 0, word), 0) + 1
        self.assertTrue(len(words) == 4 and min(words.values()) > 20, words)

    def test_long_weights(self):
        for rows, question, source in random_cases(93, 30, size=SIXTY):
            for m in (0, 2, 997):
                self.paper(rows, question, m)


class WallChecker(unittest.TestCase):
    def lets(self, thing, m=3, rows=(ONE, TWO), question=A):
        return both_ways(self, wall_lets, rows=rows, question=question, m=m, thing=thing)

    def fault(self, thing, m=3, rows=(ONE, TWO), question=A):
        return paper_fault(self, InvalidPaper, wall_lets, rows=rows, question=question, m=m, thing=thing)

    def test_examples(self):
        self.assertEqual(wall_lets((ONE, TWO), A, 3, FALLS), "falls")
        self.assertEqual(wall_lets((ONE, TWO), A, 2, STANDS), "stands")
        with self.assertRaises(PaperError) as caught:
            wall_lets((ONE, TWO), A, 3, STANDS)
        self.assertEqual((caught.exception.word, caught.exception.at), ("effect", -1))

    def test_any_value(self):
        other = [("stands",), ("stands", CHANGE, ()), ("stands", None), ("stands", list(CHANGE)), ("stands", CHANGE + CHANGE),
                 ["stands", CHANGE], ("Stands", CHANGE), ("falls", CHANGE), ("stand", CHANGE), (True, CHANGE),
                 ("falls", ((1, 1), (-3, 1))), FALLS + ((),), list(FALLS), ("falls", [(1, 1), (-3, 1)], FALLS[2]),
                 ("falls", ((2, 2), (-3, 1)), FALLS[2]), ("falls", ((1, 1), (-3, True)), FALLS[2]), ("fall",) + FALLS[1:],
                 ("falls", ((1, 1), (3, -1)), FALLS[2]), ("falls", (1, -3), FALLS[2]), ("falls", FALLS[1], None),
                 ("falls", FALLS[1], ((("c", 0), 0),)), ("falls", FALLS[2], FALLS[1]), ("stands", (), ()), ("falls", (), None)]
        for thing in ANY_VALUES + other:
            for m in (0, 3):
                self.assertEqual(self.fault(thing, m), ("shape", -1), thing)

    def test_stands(self):
        self.assertEqual(self.lets(STANDS, 0), "stands")
        self.assertEqual(self.lets(STANDS, 27), "stands")
        self.assertEqual(self.lets(("stands", scale_row(CHANGE, -2)), 27), "stands")
        self.assertEqual(self.fault(STANDS, 9), ("effect", -1))
        self.assertEqual(self.fault(("stands", scale_row(CHANGE, 3)), 27), ("effect", -1))
        self.assertEqual(self.fault(("stands", ()), 0), ("effect", -1))
        self.assertEqual(self.fault(("stands", B), 0, (C,)), ("effect", -1))
        self.assertEqual(self.fault(("stands", A), 0), ("row", 0))
        self.assertEqual(self.fault(("stands", C), 0), ("row", 1))
        self.assertEqual(self.fault(("stands", B), 3), ("row", 0))
        self.assertEqual(self.fault(("stands", CHANGE), 0, ((), ONE, TWO, C, A)), ("row", 3))
        self.assertEqual(self.fault(STANDS, 0, (ONE, TWO), ()), ("effect", -1))

    def test_falls(self):
        self.assertEqual(self.fault(("falls", (), FALLS[2])), ("many", -1))
        self.assertEqual(self.fault(("falls", FALLS[1] + ((0, 1),), FALLS[2])), ("many", -1))
        self.assertEqual(self.fault(("falls", FALLS[1][:1], FALLS[2]), 0), ("many", -1))
        self.assertEqual(self.fault(FALLS, 0), ("rest", -1))
        self.assertEqual(self.fault(FALLS, 9), ("sum", -1))
        self.assertEqual(self.fault(("falls", FALLS[1], ())), ("sum", -1))
        self.assertEqual(self.fault(("falls", FALLS[1], ()), 0), ("sum", -1))
        self.assertEqual(self.lets(("falls", FALLS[1], C), 9), "falls")
        self.assertEqual(self.lets(("falls", ((1, 2), (0, 1)), ()), 0, (scale_row(A, 2), C)), "falls")
        self.assertEqual(self.lets(("falls", (), scale_row(A, 2)), 5, (), scale_row(A, 10)), "falls")
        self.assertEqual(self.lets(("falls", ((0, 1),), ()), 2, (A,), ()), "falls")
        # Fractions whose sum with the rest is whole, although each part is not.
        self.assertEqual(self.fault(("falls", ((1, 2),), A), 2, (A,), scale_row(A, 2)), ("sum", -1))

    def test_changed_papers(self):
        found = {}
        cases = [((ONE, TWO), A, 3), ((ONE, TWO), A, 0), ((A, B), ONE, 0)]
        cases += [(rows, question, source.choice((0, 2, 3, 4)))
                  for rows, question, source in random_cases(94, 25, most_rows=3, most_cells=3)]
        for rows, question, m in cases:
            others = (None, True, 0, 1, "stands", "falls", (), [], (0, 1), (1, 2), (-1, 1), A, question)
            papers = [wall_paper(rows, question, m), STANDS, FALLS]
            for thing in [one for paper in papers for one in mutants(paper, others)]:
                wanted = plain_lets(rows, question, m, thing)
                if isinstance(wanted, str):
                    self.assertEqual(wall_lets(rows, question, m, thing), wanted)
                    self.assertIs(wanted == "stands", stands(rows, question, m))
                else:
                    with self.assertRaises(InvalidPaper) as caught:
                        wall_lets(rows, question, m, thing)
                    self.assertEqual((caught.exception.word, caught.exception.at), wanted, thing)
                    wanted = wanted[0]
                found[wanted] = found.get(wanted, 0) + 1
        for word in ("shape", "row", "effect", "many", "rest", "sum", "stands", "falls"):
            self.assertGreater(found.get(word, 0), 0, (word, found))

    def test_family(self):
        for error in (InvalidPaper, PaperError, AskError, ValueError):
            self.assertRaises(error, wall_lets, (), A, 0, None)


if __name__ == "__main__":
    unittest.main()
