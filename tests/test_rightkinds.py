"""[5], [24]: rights, steps, and the shape of archives."""

import unittest

from askrights.rightkinds import is_archive, is_right, is_step
from tests.helpers import A0, A1, ANY_VALUES, SUM, both_ways
from tests.righthelpers import ARCHIVE, PERIOD, SIXTY, TOTAL, WINDOW, mutants


def integer(thing):
    return isinstance(thing, int) and thing is not True and thing is not False


def day(thing):
    return integer(thing) and thing >= 0


def name(thing):
    return isinstance(thing, str) and thing in {thing.lower()} and thing.isalpha() and len(thing) < 9


def items(thing, *tests):
    return isinstance(thing, tuple) and len(thing) == len(tests) and all(test(one) for test, one in zip(tests, thing))


def each(thing, *tests):
    """Whether the value is a tuple of tuples of this form."""
    return isinstance(thing, tuple) and all(items(one, *tests) for one in thing)


def rising(thing):
    return list(thing) == sorted(set(thing))


def plain_kind(thing):
    for word, first, tests in (("total", 0, (day,)), ("window", 1, (day,)), ("period", 0, (day, day))):
        if items(thing, lambda one: isinstance(one, str) and one == word, *tests):
            return thing[1] >= first and rising(dict.fromkeys(thing[1:])) and thing[1] <= thing[-1]
    return False


def plain_right(thing):
    if not items(thing, name, lambda one: each(one, name, integer), day, day, plain_kind):
        return False
    weights = thing[1]
    return (len(weights) > 0 and rising([account for account, number in weights])
            and all(number != 0 for account, number in weights) and thing[2] <= thing[3])


def plain_accounts(thing):
    return isinstance(thing, tuple) and len(thing) > 0 and all(name(one) for one in thing) and rising(thing)


def plain_step(thing):
    forms = {"enter": (name, integer), "correct": (name, day, integer), "evening": (), "grant": (name, plain_right),
             "end": (name,), "halve": (name, plain_accounts, name, name)}
    return any(items(thing, lambda one: isinstance(one, str) and one == word, *tests)
               for word, tests in forms.items())


def plain_row(thing):
    if not each(thing, lambda one: items(one, name, day), integer):
        return False
    return rising([cell for cell, number in thing]) and all(number != 0 for cell, number in thing)


def plain_archive(thing):
    return items(thing, lambda one: isinstance(one, tuple) and all(name(x) for x in one), day,
                 lambda one: each(one, name, plain_right), lambda one: each(one, plain_row, integer),
                 lambda one: each(one, name, integer))


RIGHTS = [WINDOW, TOTAL, PERIOD, ("ann", (("a", 1),), 0, 0, ("period", 0, 0)),
          ("abcdefgh", (("a", SIXTY), ("b", -SIXTY)), SIXTY, SIXTY, ("window", SIXTY)),
          ("a", (("b", -1),), 0, SIXTY, ("period", SIXTY, SIXTY)), ("a", (("b", -1),), 0, SIXTY, ("total", SIXTY))]

NOT_RIGHTS = [("ann", (), 1, 3, ("total", 0)), ("ann", (("a", 0),), 1, 3, ("total", 0)),
              ("ann", (("a", 1), ("a", 2)), 1, 3, ("total", 0)), ("ann", (("b", 1), ("a", 2)), 1, 3, ("total", 0)),
              ("ann", [("a", 1)], 1, 3, ("total", 0)), ("ann", (["a", 1],), 1, 3, ("total", 0)),
              ("ann", (("a", True),), 1, 3, ("total", 0)), ("Ann", (("a", 1),), 1, 3, ("total", 0)),
              ("ann", (("a1", 1),), 1, 3, ("total", 0)), ("ann", (("a", 1),), 3, 1, ("total", 0)),
              ("ann", (("a", 1),), -1, 1, ("total", 0)), ("ann", (("a", 1),), False, 1, ("total", 0)),
              ("ann", (("a", 1),), 0, True, ("total", 0)), ("ann", (("a", 1),), 0, 1, ["total", 0]),
              ("ann", (("a", 1),), 0, 1, ("total",)), ("ann", (("a", 1),), 0, 1, ("total", 0, 0)),
              ("ann", (("a", 1),), 0, 1, ("total", -1)), ("ann", (("a", 1),), 0, 1, ("total", True)),
              ("ann", (("a", 1),), 0, 1, ("window", 0)), ("ann", (("a", 1),), 0, 1, ("window", -2)),
              ("ann", (("a", 1),), 0, 1, ("window", True)), ("ann", (("a", 1),), 0, 1, ("window", 1, 1)),
              ("ann", (("a", 1),), 0, 1, ("period", 1)), ("ann", (("a", 1),), 0, 1, ("period", 2, 1)),
              ("ann", (("a", 1),), 0, 1, ("period", 0, True)), ("ann", (("a", 1),), 0, 1, ("period", 0, 1, 2)),
              ("ann", (("a", 1),), 0, 1, ("weekly", 1)), ("ann", (("a", 1),), 0, 1, (None, 1)),
              ("ann", (("a", 1),), 0, 1, ()), ("ann", (("a", 1),), 0, 1), ("ann", (("a", 1),), 0, 1, ("total", 0), 0),
              list(WINDOW), (WINDOW,), "right", ("ann", (("a", 1, 1),), 0, 1, ("total", 0))]

STEPS = [("enter", "a", 0), ("enter", "zzzzzzzz", -SIXTY), ("correct", "a", 0, 0), ("correct", "b", SIXTY, -1),
         ("evening",), ("grant", "r", WINDOW), ("grant", "s", PERIOD), ("end", "r"), ("halve", "r", ("a",), "s", "t"),
         ("halve", "r", ("a", "b"), "r", "r")]

NOT_STEPS = [(), ("enter",), ("enter", "a"), ("enter", "a", True), ("enter", "A", 1), ("enter", "a", 1, 1),
             ["enter", "a", 1], ("correct", "a", -1, 1), ("correct", "a", 1), ("correct", "a", True, 1),
             ("correct", "a", 1, False), ("correct", "a", 1, 1, 1), ("evening", ()), ("evening", None), "evening",
             ["evening"], ("grant", "r"), ("grant", "R", WINDOW), ("grant", "r", list(WINDOW)),
             ("grant", "r", WINDOW, 1), ("grant", WINDOW, "r"), ("end",), ("end", ""), ("end", "r", "s"), ("end", ("r",)),
             ("halve", "r", (), "s", "t"), ("halve", "r", ("b", "a"), "s", "t"), ("halve", "r", ("a", "a"), "s", "t"),
             ("halve", "r", ["a"], "s", "t"), ("halve", "r", ("a",), "s"), ("halve", "r", "a", "s", "t"),
             ("halve", "r", ("a",), "s", "t", "u"), ("halve", "r", ("a",), 1, "t"), ("open", "main", ("a",)),
             ("merge", "a", "b", "c"), ("unwall", "w"), ("split", "a", ("b",), "c", "d"), (None,), (True, "a", 1),
             (("enter", "a", 1),), ("Enter", "a", 1), ([], "a", 1)]

ARCHIVES = [ARCHIVE, (("a",), 0, (), (), (("a", 0),)), ((), 0, (), (), ()), (("b", "a", "a"), SIXTY, (), (), ()),
            (("a",), 3, (("r", TOTAL), ("r", TOTAL), ("a", WINDOW)), (((), 0), (SUM, -SIXTY), (SUM, 1)),
             (("z", 1), ("a", SIXTY), ("z", -1)))]

NOT_ARCHIVES = [(), list(ARCHIVE), ARCHIVE[:4], ARCHIVE + ((),), (["a"], 0, (), (), ()), ("a", 0, (), (), ()),
                (("a",), -1, (), (), ()), (("a",), True, (), (), ()), (("A",), 0, (), (), ()),
                (("a",), 0, [], (), ()), (("a",), 0, (), [], ()), (("a",), 0, (), (), []), (("a",), 0, None, (), ()),
                (("a",), 0, (WINDOW,), (), ()), (("a",), 0, (("r", NOT_RIGHTS[0]),), (), ()),
                (("a",), 0, (("r", WINDOW, 1),), (), ()), (("a",), 0, (["r", WINDOW],), (), ()),
                (("a",), 0, (("R", WINDOW),), (), ()), (("a",), 0, (), (SUM,), ()), (("a",), 0, (), ((SUM, True),), ()),
                (("a",), 0, (), ((SUM, 1, 1),), ()), (("a",), 0, (), (((SUM,), 1),), ()),
                (("a",), 0, (), ((((A1, 1), (A0, 1)), 1),), ()), (("a",), 0, (), ((((A0, 0),), 1),), ()),
                (("a",), 0, (), ([SUM, 1],), ()), (("a",), 0, (), (), (("a", True),)), (("a",), 0, (), (), (("a",),)),
                (("a",), 0, (), (), (("A", 1),)), (("a",), 0, (), (), (["a", 1],)), (("a",), 0, (), (), (("a", None),))]


class RightKinds(unittest.TestCase):
    def check(self, function, plain, members, others):
        for thing in members:
            self.assertIs(both_ways(self, function, thing=thing), True, thing)
        for thing in others + ANY_VALUES:
            self.assertIs(both_ways(self, function, thing=thing), False, thing)
        found = {True: 0, False: 0}
        for member in members:
            for thing in mutants(member):
                self.assertIs(function(thing), plain(thing), thing)
                found[function(thing)] += 1
        self.assertTrue(found[True] > 30 and found[False] > 300, found)

    def test_examples(self):
        no_weights = ("ann", (), 1, 3, ("total", 0))
        self.assertEqual([is_right(WINDOW), is_right(no_weights), is_step(("grant", "r", WINDOW))], [True, False, True])

    def test_rights(self):
        self.check(is_right, plain_right, RIGHTS, NOT_RIGHTS + STEPS + [ARCHIVE, SUM])

    def test_steps(self):
        self.check(is_step, plain_step, STEPS, NOT_STEPS + RIGHTS + [ARCHIVE, SUM])
        for right in NOT_RIGHTS:
            self.assertIs(is_step(("grant", "r", right)), False)

    def test_archives(self):
        self.check(is_archive, plain_archive, ARCHIVES, NOT_ARCHIVES + RIGHTS + STEPS + [SUM])
        for right in NOT_RIGHTS:
            self.assertIs(is_archive((("a",), 0, (("r", right),), (), ())), False)


if __name__ == "__main__":
    unittest.main()
