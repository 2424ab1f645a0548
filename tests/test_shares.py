"""[44], [45], [8] (G4): fair shares, shares papers and their checker."""

import random
import unittest
from fractions import Fraction
from itertools import combinations, permutations

from askrights.costs import cost_of
from askrights.errors import InvalidPaper, PaperError
from askrights.kinds import is_fraction, is_name
from askrights.sharechecker import lets_shares
from askrights.shares import fair_shares, shares_paper
from tests.helpers import ANY_VALUES, both_ways, paper_fault, plain_rank
from tests.righthelpers import (ACCOUNTS, NAMES, PERIOD, TOTAL, WINDOW, mutants, plain_future, random_rights,
                                random_weights, right_of)

THREE = ("ann", (("a", 1),), 0, 9, ("window", 3))
TWO = ("bob", (("a", 1),), 0, 9, ("window", 2))
RIGHTS = (("three", THREE), ("two", TWO))
MEAN = (("three", (3, 2)), ("two", (1, 2)))
HALVES = ("fair", ((("three", "two"), (1, 2)), (("two", "three"), (1, 2))))


class PlainCosts:
    """The costs of subsets by the plain rank."""

    def __init__(self, rights, day):
        self.rights, self.day, self.found = rights, day, {}
        self.names = tuple(name for name, right in rights)

    def cost(self, names):
        key = frozenset(names)
        if key not in self.found:
            some = tuple(pair for pair in self.rights if pair[0] in key)
            self.found[key] = plain_rank(plain_future(some, self.day))
        return self.found[key]

    def increments(self, order):
        return {name: self.cost(order[:k + 1]) - self.cost(order[:k]) for k, name in enumerate(order)}

    def subsets(self):
        return [some for k in range(1, len(self.names) + 1) for some in combinations(self.names, k)]

    def mean(self):
        orders = list(permutations(self.names))
        every = [self.increments(order) for order in orders]
        return tuple((name, pair(Fraction(sum(one[name] for one in every), len(orders)))) for name in self.names)


def pair(fraction):
    return (fraction.numerator, fraction.denominator)


def amount(shares, names):
    return sum(Fraction(*fraction) for name, fraction in shares if name in names)


def has_shape(thing):
    if not isinstance(thing, tuple) or len(thing) not in (1, 2) or not isinstance(thing[0], str):
        return False
    if len(thing) == 1:
        return thing[0] == "sum"
    if not isinstance(thing[1], tuple) or len(thing[1]) == 0:
        return False
    if thing[0] == "unfair":
        return all(is_name(name) for name in thing[1])
    return thing[0] == "fair" and all(isinstance(one, tuple) and len(one) == 2 and isinstance(one[0], tuple)
                                      and all(is_name(name) for name in one[0]) and is_fraction(one[1])
                                      for one in thing[1])


def plain_lets(costs, shares, thing):
    """The word of the paper, or the first reason of [45]."""
    if not has_shape(thing):
        return ("shape", -1)
    if thing[0] == "sum":
        return ("equal", -1) if amount(shares, costs.names) == costs.cost(costs.names) else "sum"
    if thing[0] == "unfair":
        if list(thing[1]) != sorted(set(thing[1])) or not set(thing[1]) <= set(costs.names):
            return ("names", -1)
        return "unfair" if amount(shares, thing[1]) > costs.cost(thing[1]) else ("more", -1)
    for i, (order, fraction) in enumerate(thing[1]):
        if tuple(sorted(order)) != costs.names or (i > 0 and not order > thing[1][i - 1][0]):
            return ("order", i)
        if not Fraction(*fraction) > 0:
            return ("fraction", i)
    if sum(Fraction(*fraction) for order, fraction in thing[1]) != 1:
        return ("total", -1)
    for k, (name, share) in enumerate(shares):
        if Fraction(*share) != sum(Fraction(*one) * costs.increments(order)[name] for order, one in thing[1]):
            return ("share", k)
    return "fair"


def crowded_rights(source, most):
    """Rights that need much in common: totals and windows of a few accounts on all days."""
    kinds = (("total", 0), ("total", 0), ("window", 2), ("window", 3), ("period", 0, 2))
    return tuple((name, right_of(source.choice(kinds), weights=random_weights(source, ACCOUNTS[:source.randint(1, 3)], 2)))
                 for name in NAMES[:source.randint(1, most)])


def random_mixture(source, costs):
    """Fair shares: a mixture of the increments along some orders."""
    orders = [tuple(source.sample(costs.names, len(costs.names))) for k in range(source.randint(1, 5))]
    weights = [source.randint(1, 9) for order in orders]
    shares = []
    for name in costs.names:
        mixed = sum(weight * costs.increments(order)[name] for weight, order in zip(weights, orders))
        shares.append((name, pair(Fraction(mixed, sum(weights)))))
    return tuple(shares)


class FairShares(unittest.TestCase):
    def fair(self, rights, day):
        return both_ways(self, fair_shares, rights=rights, day=day)

    def test_example(self):
        self.assertEqual(fair_shares(RIGHTS, 3), (("three", (3, 2)), ("two", (1, 2))))

    def test_few_rights(self):
        self.assertEqual(self.fair((), 3), ())
        self.assertEqual(self.fair((("r", THREE),), 3), (("r", (2, 1)),))
        self.assertEqual(self.fair((("r", THREE),), 9), (("r", (0, 1)),))
        self.assertEqual(self.fair((("r", THREE), ("s", THREE), ("t", THREE)), 3),
                         (("r", (2, 3)), ("s", (2, 3)), ("t", (2, 3))))
        self.assertEqual(self.fair((("r", WINDOW), ("s", TOTAL), ("t", PERIOD)), 2),
                         (("r", (1, 1)), ("s", (0, 1)), ("t", (1, 1))))

    def test_random_rights(self):
        source = random.Random(70)
        for case in range(40):
            most = 6 if case < 4 else 4
            rights = random_rights(source, most) if case % 2 else crowded_rights(source, most)
            day = source.randint(0, 9)
            found = self.fair(rights, day)
            costs = PlainCosts(rights, day)
            self.assertEqual(found, costs.mean())
            self.assertTrue(all(is_fraction(fraction) for name, fraction in found))
            self.assertEqual(amount(found, costs.names), cost_of(rights, day))
            for some in costs.subsets():
                self.assertLessEqual(amount(found, some), costs.cost(some))


class SharesPapers(unittest.TestCase):
    def paper(self, rights, day, shares, costs=None):
        paper = both_ways(self, shares_paper, rights=rights, day=day, shares=shares)
        word = both_ways(self, lets_shares, rights=rights, day=day, shares=shares, thing=paper)
        self.assertEqual(paper[0], word)
        costs = costs or PlainCosts(rights, day)
        self.assertEqual(plain_lets(costs, shares, paper), word)
        fair = amount(shares, costs.names) == costs.cost(costs.names)
        fair = fair and all(amount(shares, some) <= costs.cost(some) for some in costs.subsets())
        self.assertIs(word == "fair", fair)
        return paper

    def test_example(self):
        self.assertEqual(shares_paper(RIGHTS, 3, (("three", (1, 2)), ("two", (3, 2)))), ("unfair", ("two",)))

    def test_few_rights(self):
        self.assertEqual(self.paper((), 3, ()), ("fair", (((), (1, 1)),)))
        self.assertEqual(self.paper((("r", THREE),), 3, (("r", (2, 1)),)), ("fair", ((("r",), (1, 1)),)))
        self.assertEqual(self.paper((("r", THREE),), 3, (("r", (1, 1)),)), ("sum",))
        self.assertIn(self.paper((("r", THREE),), 3, (("r", (5, 2)),)), (("sum",), ("unfair", ("r",))))
        self.assertEqual(self.paper((("r", THREE),), 9, (("r", (0, 1)),))[0], "fair")
        self.assertEqual(self.paper(RIGHTS, 3, MEAN)[0], "fair")
        self.assertEqual(self.paper(RIGHTS, 3, (("three", (2, 1)), ("two", (0, 1))))[0], "fair")
        self.assertEqual(self.paper(RIGHTS, 3, (("three", (1, 1)), ("two", (1, 1))))[0], "fair")
        self.assertEqual(self.paper(RIGHTS, 3, (("three", (5, 2)), ("two", (-1, 2)))), ("unfair", ("three",)))
        self.assertEqual(self.paper(RIGHTS, 3, (("three", (1, 1)), ("two", (1, 2)))), ("sum",))

    def test_equal_rights(self):
        rights = tuple((name, THREE) for name in "pqrst")
        for numbers in ((2, 0, 0, 0, 0), (0, 1, 0, 1, 0), (1, 1, 0, 0, 0), (0, 0, 0, 0, 2)):
            self.assertEqual(self.paper(rights, 3, tuple(zip("pqrst", ((k, 1) for k in numbers))))[0], "fair")
        fifth = tuple((name, (2, 5)) for name in "pqrst")
        self.assertEqual(self.paper(rights, 3, fifth)[0], "fair")
        negative = (("p", (3, 1)), ("q", (-1, 1)), ("r", (0, 1)), ("s", (0, 1)), ("t", (0, 1)))
        self.assertEqual(self.paper(rights, 3, negative)[0], "unfair")

    def test_unfair_for_one_subset_only(self):
        # Three rights that cost 1 each and 2 together, since two of them are equal.
        one, other = right_of(("total", 0)), right_of(("total", 0), weights=(("b", 1),))
        rights = (("p", one), ("q", one), ("r", other))
        self.assertEqual(self.paper(rights, 3, (("p", (3, 4)), ("q", (3, 4)), ("r", (1, 2)))), ("unfair", ("p", "q")))
        self.assertEqual(self.paper(rights, 3, (("p", (1, 4)), ("q", (3, 4)), ("r", (1, 1))))[0], "fair")

    def test_mixtures(self):
        source = random.Random(71)
        orders = 0
        for case in range(150):
            most = 6 if case % 5 == 0 else 4
            rights = random_rights(source, most) if case % 3 == 0 else crowded_rights(source, most)
            day = source.randint(0, 8)
            costs = PlainCosts(rights, day)
            paper = self.paper(rights, day, random_mixture(source, costs), costs)
            self.assertEqual(paper[0], "fair")
            self.assertLessEqual(len(paper[1]), max(1, len(rights)))
            orders = max(orders, len(paper[1]))
        self.assertGreater(orders, 3)

    def test_means(self):
        source = random.Random(72)
        for case in range(40):
            rights, day = crowded_rights(source, 6), source.randint(0, 8)
            self.assertEqual(self.paper(rights, day, fair_shares(rights, day))[0], "fair")

    def test_changed_shares(self):
        source = random.Random(73)
        words = {}
        for case in range(200):
            rights, day = crowded_rights(source, 5), source.randint(0, 8)
            costs = PlainCosts(rights, day)
            shares = [(name, Fraction(*one)) for name, one in random_mixture(source, costs)]
            if len(shares) < 2:
                continue
            (k, j), moved = source.sample(range(len(shares)), 2), Fraction(source.randint(-4, 4), source.randint(1, 5))
            shares[k] = (shares[k][0], shares[k][1] + moved)
            if source.random() < 0.8:
                shares[j] = (shares[j][0], shares[j][1] - moved)
            word = self.paper(rights, day, tuple((name, pair(one)) for name, one in shares), costs)[0]
            words[word] = words.get(word, 0) + 1
        self.assertTrue(min(words.get(word, 0) for word in ("fair", "unfair", "sum")) > 10, words)

    def test_long_fractions(self):
        # The denominators have no common divisor, so the mixture has long fractions, too.
        source = random.Random(74)
        costs = PlainCosts(tuple((name, THREE) for name in "pqrst"), 3)
        left, shares = Fraction(2), []
        for name in "pqrs":
            share = Fraction(source.randint(1, 10 ** 59), 2 * (10 ** 59 + source.randint(1, 10 ** 9)))
            share = min(share, left)
            shares.append((name, pair(share)))
            left -= share
        shares.append(("t", pair(left)))
        self.paper(costs.rights, 3, tuple(shares), costs)


class SharesChecker(unittest.TestCase):
    def lets(self, thing, shares=MEAN, rights=RIGHTS, day=3):
        return both_ways(self, lets_shares, rights=rights, day=day, shares=shares, thing=thing)

    def fault(self, thing, shares=MEAN, rights=RIGHTS, day=3):
        return paper_fault(self, InvalidPaper, lets_shares, rights=rights, day=day, shares=shares, thing=thing)

    def test_examples(self):
        self.assertEqual(lets_shares(RIGHTS, 3, (("three", (3, 2)), ("two", (1, 2))),
                                     ("fair", ((("three", "two"), (1, 2)), (("two", "three"), (1, 2))))), "fair")
        with self.assertRaises(PaperError) as caught:
            lets_shares(RIGHTS, 3, (("three", (2, 1)), ("two", (0, 1))), ("unfair", ("three",)))
        self.assertEqual((caught.exception.word, caught.exception.at), ("more", -1))

    def test_any_value(self):
        order = ("three", "two")
        other = [("fair", ()), ("fair",), ("fair", None), ("fair", [(order, (1, 1))]), ("fair", ([order, (1, 1)],)),
                 ("fair", ((list(order), (1, 1)),)), ("fair", ((order, (2, 2)),)), ("fair", ((order, 1),)),
                 ("fair", ((order, (1, 1), 0),)), ("fair", ((order,),)), ("fair", (order,)), ("fair", ((("A",), (1, 1)),)),
                 ("fair", ((order, (True, 1)),)), ("fair", ((order, (1, 1)),), ()), ["fair", ((order, (1, 1)),)],
                 ("unfair", ()), ("unfair",), ("unfair", "two"), ("unfair", ["two"]), ("unfair", ("Two",)),
                 ("unfair", (1,)), ("unfair", ("two",), ()), ("unfair", (("two",),)), ("sum", ()), "sum", ["sum"],
                 ("sums",), ("sum", "sum"), (None,), ((),), ("fairs", ((order, (1, 1)),)), (None, ("two",))]
        for thing in ANY_VALUES + other:
            self.assertEqual(self.fault(thing), ("shape", -1), thing)

    def test_shape_comes_first(self):
        self.assertEqual(self.fault(("fair", ((("two",), (1, 1)), (("two",), (2, 2))))), ("shape", -1))
        self.assertEqual(self.fault(("unfair", ("x", "X"))), ("shape", -1))

    def test_order(self):
        one = (1, 1)
        for order in ((), ("two",), ("three",), ("three", "two", "two"), ("two", "two"), ("three", "x"),
                      ("three", "two", "x")):
            self.assertEqual(self.fault(("fair", ((order, one),))), ("order", 0))
        half, other = HALVES[1]
        self.assertEqual(self.fault(("fair", (other, half))), ("order", 1))
        self.assertEqual(self.fault(("fair", (half, half))), ("order", 1))
        self.assertEqual(self.fault(("fair", (half, other, half))), ("order", 2))
        self.assertEqual(self.fault(("fair", (half, (("two",), (0, 1))))), ("order", 1))
        self.assertEqual(self.fault(("fair", (((), one), ((), one))), (), ()), ("order", 1))
        self.assertEqual(self.fault(("fair", ((("x",), one),)), (), ()), ("order", 0))

    def test_fraction_and_total(self):
        (one, half), (other, half) = HALVES[1]
        self.assertEqual(self.fault(("fair", ((one, (0, 1)), (other, (1, 1))))), ("fraction", 0))
        self.assertEqual(self.fault(("fair", ((one, (-1, 2)), (other, (3, 2))))), ("fraction", 0))
        self.assertEqual(self.fault(("fair", ((one, (1, 1)), (other, (0, 1))))), ("fraction", 1))
        self.assertEqual(self.fault(("fair", ((one, (0, 1)), (one, (1, 1))))), ("fraction", 0))
        self.assertEqual(self.fault(("fair", ((one, (1, 2)), (other, (1, 3))))), ("total", -1))
        self.assertEqual(self.fault(("fair", ((one, (1, 2)), (other, (2, 3))))), ("total", -1))
        self.assertEqual(self.fault(("fair", ((one, (2, 1)),))), ("total", -1))
        self.assertEqual(self.fault(("fair", (((), (1, 2)),)), (), ()), ("total", -1))

    def test_share(self):
        (one, half), (other, half) = HALVES[1]
        self.assertEqual(self.fault(("fair", ((one, (1, 1)),))), ("share", 0))
        self.assertEqual(self.fault(("fair", ((one, (1, 3)), (other, (2, 3))))), ("share", 0))
        self.assertEqual(self.fault(HALVES, (("three", (3, 2)), ("two", (1, 3)))), ("share", 1))
        self.assertEqual(self.lets(("fair", ((one, (1, 3)), (other, (2, 3)))), (("three", (4, 3)), ("two", (2, 3)))), "fair")
        self.assertEqual(self.lets(("fair", (((), (1, 1)),)), (), ()), "fair")

    def test_unfair(self):
        shares = (("three", (1, 2)), ("two", (3, 2)))
        self.assertEqual(self.lets(("unfair", ("two",)), shares), "unfair")
        self.assertEqual(self.fault(("unfair", ("three",)), shares), ("more", -1))
        self.assertEqual(self.fault(("unfair", ("three", "two")), shares), ("more", -1))
        for names in (("two", "three"), ("two", "two"), ("x",), ("three", "tw", "two"), ("two", "x")):
            self.assertEqual(self.fault(("unfair", names), shares), ("names", -1))
        self.assertEqual(self.lets(("unfair", ("three", "two")), (("three", (3, 2)), ("two", (2, 3)))), "unfair")
        self.assertEqual(self.fault(("unfair", ("x",)), (), ()), ("names", -1))

    def test_sum(self):
        self.assertEqual(self.fault(("sum",)), ("equal", -1))
        self.assertEqual(self.fault(("sum",), (), ()), ("equal", -1))
        self.assertEqual(self.fault(("sum",), (("three", (1, 2)), ("two", (3, 2)))), ("equal", -1))
        self.assertEqual(self.lets(("sum",), (("three", (3, 2)), ("two", (1, 3)))), "sum")
        self.assertEqual(self.lets(("sum",), (("three", (3, 2)), ("two", (2, 3)))), "sum")
        self.assertEqual(self.lets(("sum",), (("three", (-2, 1)), ("two", (0, 1)))), "sum")

    def test_changed_papers(self):
        source = random.Random(75)
        found = {}
        cases = [(RIGHTS, 3, MEAN), (RIGHTS, 3, (("three", (1, 2)), ("two", (3, 2)))), (RIGHTS, 3, (("three", (1, 2)), ("two", (0, 1))))]
        for case in range(25):
            rights, day = crowded_rights(source, 3), source.randint(0, 8)
            cases.append((rights, day, random_mixture(source, PlainCosts(rights, day))))
        for rights, day, shares in cases:
            costs = PlainCosts(rights, day)
            others = (None, True, 0, 1, "sum", "fair", "unfair", "two", "x", (), [], (0, 1), (1, 2), (-1, 2)) + costs.names
            papers = [shares_paper(rights, day, shares), ("unfair", costs.names or ("x",)), ("sum",)]
            for thing in [one for paper in papers for one in mutants(paper, others)]:
                wanted = plain_lets(costs, shares, thing)
                if isinstance(wanted, str):
                    self.assertEqual(lets_shares(rights, day, shares, thing), wanted)
                else:
                    with self.assertRaises(InvalidPaper) as caught:
                        lets_shares(rights, day, shares, thing)
                    self.assertEqual((caught.exception.word, caught.exception.at), wanted, thing)
                    wanted = wanted[0]
                found[wanted] = found.get(wanted, 0) + 1
        for word in ("shape", "order", "fraction", "total", "share", "names", "more", "equal", "unfair", "sum"):
            self.assertGreater(found.get(word, 0), 0, (word, found))

    def test_orders_and_fractions_exchanged(self):
        rights = RIGHTS + (("z", right_of(("total", 0))),)
        shares = (("three", (2, 1)), ("two", (0, 1)), ("z", (1, 1)))
        orders = (("three", "two", "z"), ("three", "z", "two"), ("z", "three", "two"))
        thirds = tuple((order, (1, 3)) for order in orders)
        self.assertEqual(self.lets(("fair", thirds), shares, rights), "fair")
        self.assertEqual(self.lets(("fair", thirds[:1] + ((orders[2], (2, 3)),)), shares, rights), "fair")
        self.assertEqual(self.fault(("fair", thirds[:2]), shares, rights), ("total", -1))
        self.assertEqual(self.fault(("fair", thirds + thirds[2:]), shares, rights), ("order", 3))
        self.assertEqual(self.fault(("fair", thirds[::-1]), shares, rights), ("order", 1))
        other = thirds[:2] + ((("two", "three", "z"), (1, 3)),)
        self.assertEqual(self.fault(("fair", other), shares, rights), ("share", 0))


if __name__ == "__main__":
    unittest.main()
