"""[46] to [48], [8] (G5), (G6): ending rights, ending papers, ending trees and their checkers."""

import random
import unittest
from fractions import Fraction
from itertools import combinations

from askrights.costs import cost_of
from askrights.endingchecker import lets_ending, lets_ending_tree
from askrights.endingpapers import ending_paper, ending_tree
from askrights.endings import fewest_endings, least_endings
from askrights.errors import AskError, InvalidPaper, PaperError
from askrights.kinds import is_fraction, is_name, is_row
from tests.helpers import ANY_VALUES, both_ways, effect, paper_fault, total
from tests.righthelpers import PERIOD, TOTAL, WINDOW, mutants, plain_future, random_rights, right_of
from tests.test_shares import RIGHTS, THREE, TWO, PlainCosts, crowded_rights

A2, A3 = ("a", 2), ("a", 3)
LONG, SHORT = ((A2, 1), (A3, 1)), ((A3, 1),)
REASON = ((LONG, ((A2, 1),)), (SHORT, ((A3, 1),)))
PAPER = (("three",), ((SHORT,), (((1, 1),),)), (REASON,))
TRIPLES = (("three", LONG, ((A2, 1),)), ("two", SHORT, ((A3, 1),)))


def plain_sufficient(costs, most):
    """All sufficient sets, by the words of [46]."""
    every = [()] + costs.subsets()
    return [some for some in every if costs.cost(set(costs.names) - set(some)) <= most]


def plain_least(costs, most):
    """All sufficient sets no proper subset of which is sufficient."""
    found = plain_sufficient(costs, most)
    return tuple(sorted(some for some in found if not any(set(other) < set(some) for other in found)))


def is_tuple(thing, *tests):
    return isinstance(thing, tuple) and len(thing) == len(tests) and all(test(x) for test, x in zip(tests, thing))


def is_each(thing, test):
    return isinstance(thing, tuple) and all(test(x) for x in thing)


def paper_shape(thing):
    return is_tuple(thing, lambda names: is_each(names, is_name),
                    lambda few: is_tuple(few, lambda rows: is_each(rows, is_row), lambda sums: is_each(
                        sums, lambda one: is_each(one, is_fraction))),
                    lambda reasons: is_each(reasons, lambda one: is_each(one, lambda two: is_tuple(two, is_row, is_row))))


def tree_shape(thing):
    return is_tuple(thing, lambda reason: is_each(reason, lambda one: is_tuple(one, is_name, is_row, is_row)),
                    lambda below: is_each(below, lambda one: is_tuple(one, is_name, tree_shape)))


def gives(fractions, rows, row):
    return total([Fraction(*fraction) for fraction in fractions], rows) == row


def is_shown(rows, changes, p):
    return effect(changes[p], rows[p]) != 0 and all(effect(changes[p], later) == 0 for later in rows[p + 1:])


def plain_lets(rights, day, most, thing):
    """The names, or the first reason of [47]."""
    if not paper_shape(thing):
        return ("shape", -1)
    names, (rows, sums), reasons = thing
    if list(names) != sorted(set(names)) or not set(names) <= set(dict(rights)):
        return ("names", -1)
    future = plain_future([pair for pair in rights if pair[0] not in names], day)
    if len(rows) > most:
        return ("many", -1)
    if len(sums) != len(future):
        return ("sums", -1)
    for i, row in enumerate(future):
        if len(sums[i]) != len(rows):
            return ("fractions", i)
        if not gives(sums[i], rows, row):
            return ("sum", i)
    if len(reasons) != len(names):
        return ("reasons", -1)
    for j, reason in enumerate(reasons):
        if len(reason) != most + 1:
            return ("pairs", j)
        allowed = plain_future([pair for pair in rights if pair[0] not in names or pair[0] == names[j]], day)
        for p, (row, change) in enumerate(reason):
            if row not in allowed:
                return ("row", (j, p))
            if not is_shown([one for one, two in reason], [two for one, two in reason], p):
                return ("change", (j, p))
    return names


def nodes_of(rights, size, node):
    """The nodes in preorder, with the rights and the size for which they stand."""
    yield rights, size, node
    for name, below in node[1]:
        yield from nodes_of([pair for pair in rights if pair[0] != name], size - 1, below)


def plain_lets_tree(rights, day, most, size, thing):
    """The number of nodes, or the first reason of [48]."""
    if not tree_shape(thing):
        return ("shape", -1)
    for n, (remaining, left, (reason, children)) in enumerate(nodes_of(rights, size, thing)):
        if len(reason) != most + 1:
            return ("many", n)
        rows, changes = [one[1] for one in reason], [one[2] for one in reason]
        for p, (name, row, change) in enumerate(reason):
            if name not in dict(remaining) or row not in plain_future([(name, dict(remaining)[name])], day):
                return ("row", (n, p))
            if not is_shown(rows, changes, p):
                return ("change", (n, p))
        wanted = sorted({name for name, row, change in reason}) if left > 0 else []
        if [name for name, below in children] != wanted:
            return ("children", n)
    return n + 1


def samples(seed, many, most_rights=6):
    """Rights, a day, and most from 0 up to beyond the cost."""
    source = random.Random(seed)
    for case in range(many):
        if case % 2:
            rights = random_rights(source, source.choice((2, 4, most_rights)))
        else:
            rights = crowded_rights(source, source.choice((2, 4, most_rights)))
        day = source.randint(0, 9)
        for most in range(0, cost_of(rights, day) + 2, source.choice((1, 2, 3))):
            yield rights, day, most


class Endings(unittest.TestCase):
    def least(self, rights, day, most):
        return both_ways(self, least_endings, rights=rights, day=day, most=most)

    def fewest(self, rights, day, most):
        return both_ways(self, fewest_endings, rights=rights, day=day, most=most)

    def test_examples(self):
        self.assertEqual(least_endings(RIGHTS, 3, 1), (("three",),))
        self.assertEqual(fewest_endings(RIGHTS, 3, 0), 2)

    def test_few_rights(self):
        for most in (0, 1, 10 ** 60):
            self.assertEqual((self.least((), 3, most), self.fewest((), 3, most)), (((),), 0))
        one = (("r", THREE),)
        self.assertEqual([self.least(one, 3, most) for most in (0, 1, 2, 3)], [(("r",),), (("r",),), ((),), ((),)])
        self.assertEqual([self.fewest(one, 3, most) for most in (0, 1, 2, 3)], [1, 1, 0, 0])
        self.assertEqual(self.least(RIGHTS, 3, 0), (("three", "two"),))
        self.assertEqual(self.least(RIGHTS, 3, 2), ((),))

    def test_rights_that_are_over_or_have_not_begun(self):
        rights = (("p", right_of(("total", 0), 0, 3)), ("q", right_of(("total", 0), 4, 9)), ("r", right_of(("total", 8), 4, 9)))
        self.assertEqual(self.least(rights, 3, 0), (("q",),))
        self.assertEqual(self.least(rights, 9, 0), ((),))
        self.assertEqual(self.least(rights, 2, 0), (("p", "q"),))

    def test_equal_rights(self):
        rights = tuple((name, THREE) for name in "pqr") + (("two", TWO),)
        self.assertEqual(self.least(rights, 3, 1), (("p", "q", "r"),))
        self.assertEqual(self.fewest(rights, 3, 0), 4)

    def test_sets_of_different_sizes(self):
        # One right needs a and b together, the two others need what the first one adds to them.
        one = right_of(("total", 0), weights=(("a", 1),))
        rights = (("p", one), ("q", one), ("r", right_of(("total", 0), weights=(("b", 1),))))
        self.assertEqual(self.least(rights, 3, 1), (("p", "q"), ("r",)))
        self.assertEqual(self.fewest(rights, 3, 1), 1)

    def test_random_rights(self):
        sizes = set()
        for rights, day, most in samples(80, 80):
            costs = PlainCosts(rights, day)
            found = self.least(rights, day, most)
            self.assertEqual(found, plain_least(costs, most))
            self.assertEqual(self.fewest(rights, day, most), min(len(some) for some in plain_sufficient(costs, most)))
            for names in found:
                left = tuple(pair for pair in rights if pair[0] not in names)
                self.assertLessEqual(cost_of(left, day), most)
            self.assertIs(found == ((),), cost_of(rights, day) <= most)
            sizes |= {len(names) for names in found}
        self.assertGreater(max(sizes), 3)


class EndingPapers(unittest.TestCase):
    def paper(self, rights, day, most):
        paper = both_ways(self, ending_paper, rights=rights, day=day, most=most)
        names = both_ways(self, lets_ending, rights=rights, day=day, most=most, thing=paper)
        self.assertEqual(names, paper[0])
        self.assertEqual(plain_lets(rights, day, most, paper), names)
        self.assertIn(names, plain_least(PlainCosts(rights, day), most))
        return paper

    def test_example(self):
        self.assertEqual(ending_paper(RIGHTS, 3, 1)[0], ("three",))

    def test_few_rights(self):
        self.assertEqual(self.paper((), 3, 0), ((), ((), ()), ()))
        self.assertEqual(self.paper((("r", THREE),), 3, 0)[0], ("r",))
        self.assertEqual(self.paper((("r", THREE),), 3, 2)[0], ())
        self.assertEqual(self.paper((("r", THREE),), 3, 10 ** 60)[2], ())
        self.assertEqual(self.paper((("r", WINDOW), ("s", TOTAL), ("t", PERIOD)), 9, 0), ((), ((), ()), ()))

    def test_random_rights(self):
        for rights, day, most in samples(81, 80):
            self.paper(rights, day, most)


class EndingTrees(unittest.TestCase):
    def tree(self, rights, day, most, size):
        tree = both_ways(self, ending_tree, rights=rights, day=day, most=most, size=size)
        fewest = min(len(some) for some in plain_sufficient(PlainCosts(rights, day), most))
        self.assertIs(tree is None, fewest <= size)
        if tree is not None:
            many = both_ways(self, lets_ending_tree, rights=rights, day=day, most=most, size=size, thing=tree)
            self.assertEqual(many, plain_lets_tree(rights, day, most, size, tree))
            self.assertEqual(many, len(list(nodes_of(rights, size, tree))))
        return tree

    def test_example(self):
        self.assertIsNone(ending_tree(RIGHTS, 3, 1, 1))

    def test_few_rights(self):
        for size in range(4):
            self.assertIsNone(self.tree((), 3, 0, size))
        self.assertEqual(self.tree((("r", TWO),), 3, 0, 0), ((("r", SHORT, ((A3, 1),)),), ()))
        self.assertIsNone(self.tree((("r", TWO),), 3, 0, 1))
        self.assertIsNone(self.tree((("r", TWO),), 3, 1, 0))
        self.assertIsNone(self.tree((("r", TWO),), 9, 0, 0))
        self.assertIsNotNone(self.tree(RIGHTS, 3, 0, 1))

    def test_equal_rights(self):
        rights = tuple((name, THREE) for name in "pqrstu")
        for size in range(4):
            self.assertIsNotNone(self.tree(rights, 3, 1, size))
            self.assertIsNone(self.tree(rights, 3, 2, size))
            self.assertIsNone(self.tree(rights[:size], 3, 1, size))

    def test_random_rights(self):
        many = {}
        for rights, day, most in samples(82, 50):
            for size in range(4):
                exists = self.tree(rights, day, most, size) is not None
                many[size, exists] = many.get((size, exists), 0) + 1
        self.assertTrue(len(many) == 8 and min(many.values()) > 5, many)


class EndingChecker(unittest.TestCase):
    def lets(self, thing, rights=RIGHTS, day=3, most=1):
        return both_ways(self, lets_ending, rights=rights, day=day, most=most, thing=thing)

    def fault(self, thing, rights=RIGHTS, day=3, most=1):
        return paper_fault(self, InvalidPaper, lets_ending, rights=rights, day=day, most=most, thing=thing)

    def test_example(self):
        self.assertEqual(lets_ending(RIGHTS, 3, 1, PAPER), ("three",))

    def test_any_value(self):
        names, few, reasons = PAPER
        other = [(names, few), (names, few, reasons, ()), [names, few, reasons], (list(names), few, reasons),
                 (("Three",), few, reasons), ("three", few, reasons), (names, few[0], reasons), (names, list(few), reasons),
                 (names, (few[0],), reasons), (names, (list(few[0]), few[1]), reasons), (names, few, list(reasons)),
                 (names, ((((A3, 0),),), few[1]), reasons), (names, (few[0], (((2, 2),),)), reasons),
                 (names, (few[0], ([(1, 1)],)), reasons), (names, few, (list(REASON),)), (names, few, REASON),
                 (names, few, ((REASON[0] + ((),),),)), (names, few, (((LONG,),),)), (names, few, ((list(REASON[0]),),)),
                 (names, few, (((LONG, ((A2, True),)),),)), (names, few, None), ((None,), few, reasons)]
        for thing in ANY_VALUES + other:
            self.assertEqual(self.fault(thing), ("shape", -1), thing)

    def test_each_word(self):
        names, few, reasons = PAPER
        self.assertEqual(self.fault((("two", "three"), few, reasons)), ("names", -1))
        self.assertEqual(self.fault((("three", "three"), few, reasons)), ("names", -1))
        self.assertEqual(self.fault((("x",), few, reasons)), ("names", -1))
        self.assertEqual(self.fault((names, ((SHORT, SHORT), few[1]), reasons)), ("many", -1))
        self.assertEqual(self.fault(PAPER, most=0), ("many", -1))
        self.assertEqual(self.fault((names, (few[0], ()), reasons)), ("sums", -1))
        self.assertEqual(self.fault((names, (few[0], few[1] * 2), reasons)), ("sums", -1))
        self.assertEqual(self.fault((names, (few[0], ((),)), reasons)), ("fractions", 0))
        self.assertEqual(self.fault((names, (few[0], (((1, 1), (0, 1)),)), reasons)), ("fractions", 0))
        self.assertEqual(self.fault((names, (few[0], (((1, 2),),)), reasons)), ("sum", 0))
        self.assertEqual(self.fault((names, ((LONG,), few[1]), reasons)), ("sum", 0))
        self.assertEqual(self.fault((names, few, ())), ("reasons", -1))
        self.assertEqual(self.fault((names, few, reasons * 2)), ("reasons", -1))
        self.assertEqual(self.fault((names, few, (REASON[:1],))), ("pairs", 0))
        self.assertEqual(self.fault((names, few, (REASON + REASON,))), ("pairs", 0))
        self.assertEqual(self.fault((names, few, ((REASON[0], (((A3, 2),), ((A3, 1),))),))), ("row", (0, 1)))
        self.assertEqual(self.fault((names, few, (((((A2, 2), (A3, 2)), ((A2, 1),)), REASON[1]),))), ("row", (0, 0)))
        self.assertEqual(self.fault((names, few, ((((), ()), REASON[1]),))), ("row", (0, 0)))
        self.assertEqual(self.fault((names, few, (((LONG, ((A3, 1),)), REASON[1]),))), ("change", (0, 0)))
        self.assertEqual(self.fault((names, few, (((LONG, ()), REASON[1]),))), ("change", (0, 0)))
        self.assertEqual(self.fault((names, few, ((REASON[0], (SHORT, ((A2, 1),))),))), ("change", (0, 1)))
        self.assertEqual(self.lets((names, few, (((SHORT, ((A2, -1), (A3, 1))), (LONG, ((A2, 5),))),))), names)

    def test_other_correct_papers(self):
        names, few, reasons = PAPER
        self.assertEqual(self.lets((names, ((((A3, 2),),), (((1, 2),),)), reasons)), names)
        # Fewer rows than most are not enough for a set that is not minimal: the reason is missing.
        self.assertEqual(self.fault((("three", "two"), ((), ()), reasons)), ("reasons", -1))
        self.assertEqual(self.fault((("three", "two"), ((), ()), reasons * 2)), ("row", (1, 0)))
        # A zero row and repeated rows may be among few, if they are not too many.
        self.assertEqual(self.lets(((), (((), SHORT, LONG), (((0, 1), (0, 1), (1, 1)), ((5, 1), (1, 1), (0, 1)))), ()), most=3), ())

    def test_order_of_the_words(self):
        names, few, reasons = PAPER
        self.assertEqual(self.fault((("x",), ((LONG, LONG), ()), ())), ("names", -1))
        self.assertEqual(self.fault((names, ((LONG, LONG), ()), ())), ("many", -1))
        self.assertEqual(self.fault((names, ((), ()), ())), ("sums", -1))
        self.assertEqual(self.fault((names, ((LONG,), few[1]), ())), ("sum", 0))
        self.assertEqual(self.fault(((), (few[0], (((1, 2),), ())), reasons)), ("sum", 0))
        self.assertEqual(self.fault(((), ((LONG,), (((1, 1),), ())), reasons)), ("fractions", 1))
        two = (((LONG, ()), (LONG, ())), ((SHORT, ()),))
        self.assertEqual(self.fault((("three", "two"), ((), ()), two)), ("change", (0, 0)))
        self.assertEqual(self.fault((("three", "two"), ((), ()), two[::-1])), ("pairs", 0))

    def test_changed_papers(self):
        found = {}
        cases = [(RIGHTS, 3, 1), (RIGHTS, 3, 0), (RIGHTS, 3, 2)] + list(samples(83, 6, 3))
        for rights, day, most in cases:
            others = (None, True, 0, 1, "two", (), [], (0, 1), (1, 2), SHORT, LONG) + tuple(dict(rights))
            for thing in mutants(ending_paper(rights, day, most), others):
                wanted = plain_lets(rights, day, most, thing)
                if wanted and isinstance(wanted[-1], (int, tuple)):
                    with self.assertRaises(InvalidPaper) as caught:
                        lets_ending(rights, day, most, thing)
                    self.assertEqual((caught.exception.word, caught.exception.at), wanted, thing)
                    found[wanted[0]] = found.get(wanted[0], 0) + 1
                else:
                    self.assertEqual(lets_ending(rights, day, most, thing), wanted)
        for word in ("shape", "names", "many", "sums", "fractions", "sum", "reasons", "pairs", "row", "change"):
            self.assertGreater(found.get(word, 0), 0, (word, found))

    def test_family(self):
        for error in (PaperError, AskError, ValueError):
            self.assertRaises(error, lets_ending, RIGHTS, 3, 1, None)
            self.assertRaises(error, lets_ending_tree, RIGHTS, 3, 1, 0, None)


class EndingTreeChecker(unittest.TestCase):
    def lets(self, thing, rights=RIGHTS, day=3, most=1, size=0):
        return both_ways(self, lets_ending_tree, rights=rights, day=day, most=most, size=size, thing=thing)

    def fault(self, thing, rights=RIGHTS, day=3, most=1, size=0):
        return paper_fault(self, InvalidPaper, lets_ending_tree, rights=rights, day=day, most=most, size=size,
                           thing=thing)

    def test_example(self):
        self.assertEqual(lets_ending_tree(RIGHTS, 3, 1, 0, (TRIPLES, ())), 1)

    def test_any_value(self):
        one = TRIPLES[0]
        other = [(TRIPLES,), (TRIPLES, (), ()), [TRIPLES, ()], (list(TRIPLES), ()), (TRIPLES, []), ((one[:2],), ()),
                 ((one + ((),),), ()), ((list(one),), ()), ((("Three",) + one[1:],), ()), (((None,) + one[1:],), ()),
                 ((("three", ((A2, 0),), ()),), ()), ((("three", LONG, ((A2, True),)),), ()), (TRIPLES, (("two",),)),
                 (TRIPLES, (("two", ()),)), (TRIPLES, (("two", (TRIPLES, None)),)), (TRIPLES, (("Two", (TRIPLES, ())),)),
                 (TRIPLES, (["two", (TRIPLES, ())],)), (TRIPLES, (("two", [TRIPLES, ()]),)), (TRIPLES, (TRIPLES, ())),
                 (TRIPLES, (("two", (TRIPLES, ()), ()),)), (TRIPLES, (("two", (TRIPLES, (("x", ((1,), ())),))),))]
        for thing in ANY_VALUES + other:
            self.assertEqual(self.fault(thing), ("shape", -1), thing)
        self.assertEqual(self.fault(((), (("x", ((), (("y", ((), None)),))),))), ("shape", -1))

    def test_each_word(self):
        one, two = TRIPLES
        self.assertEqual(self.fault((TRIPLES[:1], ())), ("many", 0))
        self.assertEqual(self.fault(((), ())), ("many", 0))
        self.assertEqual(self.fault((TRIPLES + TRIPLES, ())), ("many", 0))
        self.assertEqual(self.fault((TRIPLES, ()), most=0), ("many", 0))
        self.assertEqual(self.fault(((("x",) + one[1:], two), ())), ("row", (0, 0)))
        self.assertEqual(self.fault(((("two",) + one[1:], two), ())), ("row", (0, 0)))
        self.assertEqual(self.fault(((one, ("two", ((A3, 2),), ((A3, 1),))), ())), ("row", (0, 1)))
        self.assertEqual(self.fault(((("three", (), ()), two), ())), ("row", (0, 0)))
        self.assertEqual(self.fault(((("three", LONG, ((A3, 1),)), two), ())), ("change", (0, 0)))
        self.assertEqual(self.fault(((one, ("two", SHORT, ((A2, 1),))), ())), ("change", (0, 1)))
        self.assertEqual(self.fault(((one, ("two", SHORT, ())), ())), ("change", (0, 1)))
        self.assertEqual(self.fault((TRIPLES, (("two", (TRIPLES, ())),))), ("children", 0))
        self.assertEqual(self.fault((TRIPLES, ()), size=1), ("children", 0))
        self.assertEqual(self.lets(((one, ("three", SHORT, ((A3, 1),))), ())), 1)

    def test_children(self):
        three = (("three", SHORT, ((A3, 1),)),)
        two = (("two", SHORT, ((A3, 1),)),)
        self.assertEqual(self.lets((three, (("three", (two, ())),)), most=0, size=1), 2)
        self.assertEqual(self.lets((two, (("two", (three, ())),)), most=0, size=1), 2)
        self.assertEqual(self.fault((three, (("three", (three, ())),)), most=0, size=1), ("row", (1, 0)))
        self.assertEqual(self.fault((three, (("two", (two, ())),)), most=0, size=1), ("children", 0))
        self.assertEqual(self.fault((three, (("three", (two, ())),) * 2), most=0, size=1), ("children", 0))
        self.assertEqual(self.fault((three, (("three", (two, (("two", ((), ())),))),)), most=0, size=1), ("children", 1))
        self.assertEqual(self.fault((three, (("three", (two, (("two", ((), ())),))),)), most=0, size=2), ("many", 2))
        self.assertEqual(self.fault((three, (("three", ((), ())),)), most=0, size=1), ("many", 1))

    def test_preorder(self):
        # Three equal rights of two rows each; a reason names two of them.
        rights = (("p", THREE), ("q", THREE), ("r", THREE))

        def leaf(*names):
            return tuple((name,) + one[1:] for name, one in zip(names, TRIPLES))
        good = (leaf("p", "q"), (("p", (leaf("q", "r"), ())), ("q", (leaf("p", "p"), ()))))
        self.assertEqual(self.lets(good, rights, size=1), 3)
        worse = (leaf("p", "q"), (("p", (leaf("q", "r"), ())), ("q", (leaf("p", "q"), ()))))
        self.assertEqual(self.fault(worse, rights, size=1), ("row", (2, 1)))
        deep = (leaf("p", "q"), (("p", (leaf("q", "r"), (("q", (leaf("r", "r"), ())), ("r", (leaf("q", "q"), ()))))),
                                 ("q", (leaf("p", "p"), (("p", (leaf("r", "r")[:1], ())),)))))
        self.assertEqual(self.fault(deep, rights, size=2), ("many", 5))
        both = (leaf("p", "q"), (("p", (leaf("q", "r"), (("q", (leaf("r", "p"), ())), ("r", (leaf("q", "q"), ()))))),
                                 ("q", (leaf("q", "q"), ()))))
        self.assertEqual(self.fault(both, rights, size=2), ("row", (2, 1)))
        self.assertEqual(self.fault((good[0], good[1][::-1]), rights, size=1), ("children", 0))

    def test_changed_trees(self):
        found = {}
        cases = [(RIGHTS, 3, 0, 1), (RIGHTS, 3, 1, 0), ((("p", THREE), ("q", THREE), ("r", THREE)), 3, 0, 2)]
        cases += [(rights, day, most, size) for rights, day, most in samples(84, 8, 4) for size in (0, 1, 2)]
        for rights, day, most, size in cases:
            tree = ending_tree(rights, day, most, size)
            if tree is None or len(repr(tree)) > 700:
                continue
            others = (None, True, 0, 1, "two", (), [], (0, 1), SHORT, LONG) + tuple(dict(rights))
            for thing in mutants(tree, others):
                wanted = plain_lets_tree(rights, day, most, size, thing)
                if isinstance(wanted, tuple):
                    with self.assertRaises(InvalidPaper) as caught:
                        lets_ending_tree(rights, day, most, size, thing)
                    self.assertEqual((caught.exception.word, caught.exception.at), wanted, thing)
                    found[wanted[0]] = found.get(wanted[0], 0) + 1
                else:
                    self.assertEqual(lets_ending_tree(rights, day, most, size, thing), wanted)
        for word in ("shape", "many", "row", "change", "children"):
            self.assertGreater(found.get(word, 0), 0, (word, found))


if __name__ == "__main__":
    unittest.main()
