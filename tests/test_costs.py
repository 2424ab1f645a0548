"""[7], [42], [43], [8] (G4): costs."""

import random
import unittest
from itertools import permutations

from askrights.costs import cost_of, cost_over, extension_price, increments_of
from askrights.errors import ArchiveError, UnknownName
from askrights.evenings import keep_of
from tests.helpers import both_ways, plain_rank
from tests.righthelpers import PERIOD, TOTAL, WINDOW, plain_future, random_rights, right_of

THREE = ("ann", (("a", 1),), 0, 9, ("window", 3))
TWO = ("bob", (("a", 1),), 0, 9, ("window", 2))
RIGHTS = (("three", THREE), ("two", TWO))


def plain_cost(rights, day):
    return plain_rank(plain_future(rights, day))


class Costs(unittest.TestCase):
    def cost(self, rights, day):
        return both_ways(self, cost_of, rights=rights, day=day)

    def over(self, rights, first, last):
        return both_ways(self, cost_over, rights=rights, first=first, last=last)

    def price(self, rights, name, last, **today):
        found = both_ways(self, extension_price, rights=rights, name=name, last=last) if not today else None
        by_name = extension_price(rights, name, last, **today)
        self.assertIn(found, (None, by_name))
        return by_name

    def test_examples(self):
        self.assertEqual(cost_of(RIGHTS, 3), 2)
        self.assertEqual(cost_over(RIGHTS, 8, 9), 2)
        self.assertEqual(increments_of(RIGHTS, ("two", "three"), 3), (1, 1))
        self.assertEqual(extension_price((("one", ("ann", (("a", 1),), 0, 1, ("total", 0))),), "one", 3), 2)

    def test_cost(self):
        self.assertEqual(self.cost((), 0), 0)
        self.assertEqual([self.cost((("r", WINDOW),), day) for day in range(5)], [1, 1, 1, 0, 0])
        self.assertEqual([self.cost((("r", TOTAL),), day) for day in range(4)], [1, 1, 0, 0])
        self.assertEqual([self.cost((("r", PERIOD),), day) for day in range(10)], [0, 0, 1, 1, 1, 1, 1, 1, 1, 0])
        self.assertEqual([self.cost((("r", THREE),), day) for day in range(10)], [1, 2, 2, 2, 2, 2, 2, 2, 1, 0])
        self.assertEqual(self.cost((("r", right_of(("window", 1))),), 3), 0)

    def test_equal_rights_cost_as_much_as_one(self):
        for right in (WINDOW, TOTAL, PERIOD, THREE):
            other = ("dee",) + right[1:]
            for day in range(10):
                one = self.cost((("r", right),), day)
                self.assertEqual(self.cost((("r", right), ("s", other), ("t", right)), day), one)

    def test_cost_over(self):
        self.assertEqual(self.over(RIGHTS, 0, 9), sum(cost_of(RIGHTS, day) for day in range(10)))
        self.assertEqual(self.over(RIGHTS, 4, 4), 2)
        self.assertEqual(self.over(RIGHTS, 5, 4), 0)
        self.assertEqual(self.over(RIGHTS, 9, 0), 0)
        self.assertEqual(self.over(RIGHTS, 9, 9), 0)
        self.assertEqual(self.over(RIGHTS, 8, 8), 1 + 1)
        self.assertEqual(self.over(RIGHTS, 7, 40), 2 + 2)
        self.assertEqual(self.over(RIGHTS, 0, 10 ** 20), self.over(RIGHTS, 0, 8))
        self.assertEqual(self.over((), 0, 9), 0)

    def test_increments(self):
        def found(order):
            return both_ways(self, increments_of, rights=RIGHTS, order=order, day=3)

        self.assertEqual(found(()), ())
        self.assertEqual(found(("three",)), (2,))
        self.assertEqual(found(("two",)), (1,))
        self.assertEqual(found(("three", "two")), (2, 0))
        self.assertEqual(both_ways(self, increments_of, rights=(), order=(), day=3), ())

    def test_unknown_names(self):
        for order, name in ((("x",), "x"), (("two", "y", "x"), "y"), (("x", "two"), "x"), (("three", "two", "tw"), "tw")):
            for call in (lambda: increments_of(RIGHTS, order, 3),
                         lambda: increments_of(rights=RIGHTS, order=order, day=3)):
                with self.assertRaises(UnknownName) as caught:
                    call()
                self.assertIsInstance(caught.exception, ArchiveError)
                self.assertEqual(caught.exception.name, name)
        for call in (lambda: extension_price(RIGHTS, "one", 9), lambda: extension_price((), "one", 9, today=3),
                     lambda: extension_price(rights=RIGHTS, name="one", last=10, today=1)):
            with self.assertRaises(UnknownName) as caught:
                call()
            self.assertEqual(caught.exception.name, "one")

    def test_extension_price(self):
        one = (("one", right_of(("total", 0), 0, 1)),)
        self.assertEqual([self.price(one, "one", last) for last in (1, 2, 3, 9)], [0, 1, 2, 8])
        self.assertEqual([self.price(one, "one", 3, today=today) for today in (0, 1, 2, 3, 4)], [2, 2, 1, 0, 0])
        early = (("one", right_of(("total", 0), 0, 0)),)
        self.assertEqual([self.price(early, "one", 2), self.price(early, "one", 2, today=1)], [2, 1])
        # The other right keeps the same total anyway, so only the days after its end cost more.
        both = one + (("two", right_of(("total", 0), 0, 4)),)
        self.assertEqual([self.price(both, "one", last) for last in (3, 4, 6)], [0, 0, 2])
        with self.assertRaises(TypeError):
            extension_price(one, "one", 3, 1)

    def test_random_rights(self):
        source = random.Random(60)
        for case in range(60):
            rights = random_rights(source)
            first, last = source.randint(0, 10), source.randint(0, 12)
            costs = [plain_cost(rights, day) for day in range(21)]
            self.assertEqual([self.cost(rights, day) for day in range(11)], costs[:11])
            self.assertEqual(self.over(rights, first, last), sum(costs[first:last + 1]))
            self.assertEqual(self.cost(rights, first), len(keep_of(rights, (), first)))
            for at, (name, right) in enumerate(rights):
                longer = right[:3] + (right[3] + source.randint(0, 3),) + right[4:]
                extended = rights[:at] + ((name, longer),) + rights[at + 1:]
                more = [plain_cost(extended, day) for day in range(21)]
                self.assertTrue(all(one <= other for one, other in zip(costs, more)))
                self.assertEqual(self.price(rights, name, longer[3], today=first), sum(more[first:]) - sum(costs[first:]))

    def test_increments_of_random_rights(self):
        source = random.Random(61)
        for case in range(60):
            rights = random_rights(source, 5)
            day = source.randint(0, 8)
            order = [name for name, right in rights]
            source.shuffle(order)
            order = tuple(order[:source.randint(0, len(order))])
            found = both_ways(self, increments_of, rights=rights, order=order, day=day)
            wanted = []
            for k in range(len(order)):
                before = tuple(pair for pair in rights if pair[0] in order[:k])
                wanted.append(plain_cost(tuple(sorted(before + ((order[k], dict(rights)[order[k]]),))), day)
                              - plain_cost(before, day))
            self.assertEqual(found, tuple(wanted))
            self.assertEqual(sum(found), cost_of(tuple(pair for pair in rights if pair[0] in order), day))

    def test_consequences(self):
        source = random.Random(62)
        for case in range(80):
            rights = random_rights(source, 4)
            day = source.randint(0, 8)
            names = tuple(name for name, right in rights)
            # An increment never increases if more rights are before it.
            for order in permutations(names):
                for k in range(len(order)):
                    later = increments_of(rights, order, day)[k]
                    self.assertGreaterEqual(later, 0)
                    for left in range(k):
                        shorter = order[:left] + order[left + 1:k + 1]
                        self.assertGreaterEqual(increments_of(rights, shorter, day)[-1], later)
                if case % 4:
                    break
            single = sum(cost_of((pair,), day) for pair in rights)
            self.assertLessEqual(cost_of(rights, day), single)
            scaled = tuple((name, right[:1] + (tuple((a, -7 * w) for a, w in right[1]),) + right[2:])
                           for name, right in rights)
            self.assertEqual(cost_of(scaled, day), cost_of(rights, day))


if __name__ == "__main__":
    unittest.main()
