"""[55] to [60], [8] (G5), (G6): giving up rights, give papers, fewest papers and their checkers."""

import random
import unittest
from itertools import combinations

from askrights.errors import AskError, ArchiveError, InvalidPaper, PaperError, UnknownName
from askrights.giving import fewest_to_end, rows_left, sets_to_end
from askrights.givingchecker import lets_fewest, lets_give
from askrights.givingpapers import fewest_paper, give_paper
from askrights.kinds import is_fraction, is_name, is_row
from askrights.rowsums import scale_row
from askrights.walls import stands
from tests.helpers import ANY_VALUES, both_ways, paper_fault, plain_modulus, random_row
from tests.righthelpers import PERSONS, mutants, plain_question, random_rights, random_weights
from tests.test_endings import is_each, is_tuple
from tests.test_knowing import A, B, C, DIFF, ONE, PLUS, RIGHTS, TODAY, WALL, few_rows
from tests.test_walls import plain_lets as plain_wall

CHANGE = ((("a", 0), 1), (("b", 0), -1))
REASONS = ((((1, 2), (1, 2)), ()), (((-1, 1), (1, 1)), ()))
GIVE = (("diff", "lone"), CHANGE, REASONS)
LEFT = (((-1, 1), (1, 1)), (), ())
RIGHT = (((1, 1), (1, 1)), (), ())
NODE = (((1, 2), (0, 1), (1, 2)), (), (("diff", LEFT), ("plus", RIGHT)))
FEWEST = ("fewest", ("diff", "lone"), CHANGE, NODE)
NEVER = ("never", ((1, 1),), ())


def named(*rights):
    return tuple(zip(("p", "q", "r", "s", "t", "u"), rights))


def once(person, *weights):
    """A right to ask once, today, for the weighted sum of a, b and c."""
    return (person, tuple(pair for pair in zip("abc", weights) if pair[1] != 0), 0, 0, TODAY)


def plain_left(rights, today, known, wall, names):
    """The rows that are left, by the words of [55], each with the name of its right or None."""
    rows = [(None, row) for row in known]
    for name, right in rights:
        if right[0] in wall[0] and name not in names:
            rows += [(name, plain_question(right, day)) for day in range(right[2], right[3] + 1) if day >= today]
    return rows


def plain_sets(rights, today, known, wall):
    """All minimal sufficient sets, by a search through all subsets."""
    names = [name for name, right in rights if right[0] in wall[0]]
    found = []
    for size in range(len(names) + 1):
        for some in combinations(names, size):
            rows = [row for owner, row in plain_left(rights, today, known, wall, some)]
            if stands(tuple(rows), wall[1], wall[2]):
                found.append(some)
    return tuple(sorted(some for some in found if not any(set(other) < set(some) for other in found)))


def is_fall(*things):
    return len(things) == 2 and is_each(things[0], is_fraction) and is_row(things[1])


def wall_fault(rows, wall, paper):
    """The (word, at) of [54], or None."""
    found = plain_wall(rows, wall[1], wall[2], paper)
    return None if isinstance(found, str) else found


def stands_fault(case, names, change):
    rights, today, known, wall = case
    theirs = {name for name, right in rights if right[0] in wall[0]}
    if list(names) != sorted(set(names)) or not set(names) <= theirs:
        return ("names", -1)
    return wall_fault([row for owner, row in plain_left(*case, names)], wall, ("stands", change))


def plain_lets_give(case, thing):
    """The names, or the first reason of [58]."""
    if not is_tuple(thing, lambda x: is_each(x, is_name), is_row, lambda x: is_each(x, lambda y: isinstance(y, tuple) and is_fall(*y))):
        return ("shape", -1)
    names, change, reasons = thing
    fault = stands_fault(case, names, change)
    if fault:
        return fault
    if len(reasons) != len(names):
        return ("reasons", -1)
    for n, (fractions, rest) in enumerate(reasons):
        rows = [row for owner, row in plain_left(*case, [name for name in names if name != names[n]])]
        fault = wall_fault(rows, case[3], ("falls", fractions, rest))
        if fault:
            return (fault[0], (n, fault[1]))
    return names


def node_depth(thing):
    """How deep nodes are nested, or None if the value is no node by its shape."""
    if not isinstance(thing, tuple) or len(thing) != 3 or not is_fall(*thing[:2]) or not isinstance(thing[2], tuple):
        return None
    depth = 0
    for pair in thing[2]:
        if not is_tuple(pair, is_name, lambda below: node_depth(below) is not None):
            return None
        depth = max(depth, node_depth(pair[1]))
    return depth + 1


def fewest_shape(thing):
    if not isinstance(thing, tuple) or len(thing) < 3:
        return False
    if thing[0] == "never":
        return is_fall(*thing[1:])
    if thing[0] != "fewest" or len(thing) != 4 or not is_each(thing[1], is_name) or not is_row(thing[2]):
        return False
    return thing[3] == () or (node_depth(thing[3]) or 7) <= 6


def walked(node, path=()):
    yield path, node
    for name, below in node[2]:
        yield from walked(below, path + (name,))


def plain_lets_fewest(case, thing):
    """The number of names, None for "never", or the first reason of [60]."""
    wall = case[3]
    if not fewest_shape(thing):
        return ("shape", -1)
    if thing[0] == "never":
        return wall_fault(case[2], wall, ("falls",) + thing[1:])
    word, names, change, node = thing
    fault = stands_fault(case, names, change)
    if fault:
        return fault
    if (len(names) == 0) is not (len(node) == 0):
        return ("node", ())
    for path, (fractions, rest, children) in walked(node) if node else ():
        left = plain_left(*case, path)
        fault = wall_fault([row for owner, row in left], wall, ("falls", fractions, rest))
        if fault:
            return (fault[0], (path, fault[1]))
        used = sorted({owner for (owner, row), fraction in zip(left, fractions) if owner and fraction[0] != 0})
        if [name for name, below in children] != (used if len(path) < len(names) - 1 else []):
            return ("children", path)
    return len(names)


def samples(seed, many):
    """Rights, a day, known rows and walls; most walls fall by the rights."""
    source = random.Random(seed)
    for case in range(many):
        if case % 3 == 0:
            rights = random_rights(source, 5, last=3)
        else:
            rights = named(*[(source.choice(PERSONS[:2]), random_weights(source, "abc"[:source.randint(1, 3)], 2), 0, 1,
                              source.choice((TODAY, ("window", 1), ("total", 0)))) for k in range(source.randint(1, 5))])
        today = source.randint(0, 1)
        cells = [(account, day) for account in "abc" for day in range(2)]
        known = tuple(random_row(source, cells, 2, 0.4) for k in range(source.choice((0, 0, 1, 2))))
        asked = [row for owner, row in plain_left(rights, today, known, (PERSONS,), ())]
        if asked and source.random() < 0.7:
            question = scale_row(source.choice(asked), source.choice((1, 1, 2)))
        else:
            question = random_row(source, cells, 2, 0.3)
        group = tuple(sorted(source.sample(PERSONS[:2], source.randint(1, 2))))
        yield rights, today, known, (group, question, source.choice((0, 0, 2, 3)))


class RowsLeft(unittest.TestCase):
    def left(self, rights, today, known, wall, names):
        return both_ways(self, rows_left, rights=rights, today=today, known=known, wall=wall, names=names)

    def test_examples(self):
        self.assertTrue(rows_left(RIGHTS, 0, (), WALL, ("diff",)) == (B, PLUS))
        with self.assertRaises(UnknownName) as caught:
            rows_left(RIGHTS, 0, (), (("bob",), A, 0), ("diff",))
        self.assertEqual(caught.exception.name, "diff")

    def test_order_repeated_rows_and_zero_rows(self):
        self.assertEqual(self.left(RIGHTS, 0, (C, (), A, A), WALL, ()), (C, (), A, A, DIFF, B, PLUS))
        self.assertEqual(self.left(RIGHTS, 0, (), WALL, ("diff", "lone", "plus")), ())
        self.assertEqual(self.left(RIGHTS, 1, (A,), WALL, ()), (A,))
        self.assertEqual(self.left((), 0, (), WALL, ()), ())
        rights = named(("ann", (("a", 1),), 0, 3, ("total", 2)), ("ann", (("a", 1),), 0, 2, TODAY))
        self.assertEqual(self.left(rights, 1, (), WALL, ()),
                         ((), ((("a", 2), 1),), ((("a", 2), 1), (("a", 3), 1)), A, A))
        self.assertEqual(self.left(rights, 1, (), WALL, ("p",)), (A, A))

    def test_unknown_names(self):
        for names, first in ((("x",), "x"), (("diff", "x"), "x"), (("aa", "x"), "aa"), (("lone",), "lone")):
            for call in (lambda: rows_left(RIGHTS, 0, (), (("ann",), A, 0), names),
                         lambda: rows_left(rights=RIGHTS, today=0, known=(), wall=(("ann",), A, 0), names=names)):
                with self.assertRaises(UnknownName) as caught:
                    call()
                self.assertEqual(caught.exception.name, first)
                self.assertIsInstance(caught.exception, ArchiveError)
                self.assertIsInstance(caught.exception, AskError)

    def test_random_rights(self):
        source = random.Random(100)
        for case in samples(101, 60):
            theirs = [name for name, right in case[0] if right[0] in case[3][0]]
            names = tuple(name for name in theirs if source.random() < 0.4)
            self.assertEqual(self.left(*case, names), tuple(row for owner, row in plain_left(*case, names)))


class Sets(unittest.TestCase):
    def sets(self, rights, today, known, wall):
        found = both_ways(self, sets_to_end, rights=rights, today=today, known=known, wall=wall)
        fewest = both_ways(self, fewest_to_end, rights=rights, today=today, known=known, wall=wall)
        self.assertEqual(fewest, min([len(names) for names in found]) if found else None)
        self.assertEqual(found, plain_sets(rights, today, known, wall))
        return found

    def test_examples(self):
        self.assertEqual(sets_to_end(RIGHTS, 0, (), WALL), (("diff", "lone"), ("diff", "plus"), ("lone", "plus")))
        self.assertEqual(sets_to_end(RIGHTS, 0, (), (("bob",), A, 0)), ((),))
        self.assertEqual(fewest_to_end(RIGHTS, 0, (), WALL), 2)
        self.assertTrue(fewest_to_end(RIGHTS, 0, (A,), WALL) is None)

    def test_edges(self):
        self.assertEqual(self.sets((), 0, (), WALL), ((),))
        self.assertEqual(self.sets((), 0, (A,), WALL), ())
        self.assertEqual(self.sets(RIGHTS, 0, (), (("ann",), (), 0)), ())
        self.assertEqual(self.sets(RIGHTS, 0, (B,), WALL), (("diff", "plus"),))
        self.assertEqual(self.sets(RIGHTS, 1, (), WALL), ((),))
        self.assertEqual(self.sets(RIGHTS, 0, (), (("cy",), A, 0)), ((),))
        # A question that is a multiple of m is known modulo m even by those who know nothing.
        self.assertEqual(self.sets(RIGHTS, 0, (), (("cy",), scale_row(A, 6), 3)), ())
        self.assertEqual(self.sets(RIGHTS, 0, (), (("cy",), scale_row(A, 6), 4)), ((),))

    def test_sets_of_different_sizes(self):
        rights = named(once("ann", 1, 1), once("ann", 0, 1), once("ann", 0, 3))
        self.assertEqual(self.sets(rights, 0, (), (("ann",), A, 0)), (("p",), ("q", "r")))

    def test_walls_with_a_modulus(self):
        # a + 2 * b tells a modulo 2, and a + 4 * c tells it modulo 4.
        rights = named(once("ann", 1, 2), once("ann", 1, 0, 4))
        self.assertEqual(self.sets(rights, 0, (), (("ann",), A, 2)), (("p", "q"),))
        self.assertEqual(self.sets(rights, 0, (), (("ann",), A, 4)), (("q",),))
        self.assertEqual(self.sets(rights, 0, (), (("ann",), A, 8)), ((),))
        self.assertEqual(self.sets(rights, 0, (), (("ann",), A, 0)), ((),))

    def test_other_persons_do_not_matter(self):
        others = (("aa", once("cy", 1)), ("zz", once("dee", 0, 1)))
        self.assertEqual(self.sets(tuple(sorted(RIGHTS + others)), 0, (), WALL), sets_to_end(RIGHTS, 0, (), WALL))

    def test_random_rights(self):
        kinds = {}
        for case in samples(102, 150):
            found = self.sets(*case)
            stands_already = stands(rows_left(*case, ()), case[3][1], case[3][2])
            self.assertIs(found == ((),), stands_already)
            self.assertIs(found == (), not stands(case[2], case[3][1], case[3][2]))
            kind = "none" if found == () else max(len(names) for names in found)
            kinds[kind] = kinds.get(kind, 0) + 1
        self.assertTrue(set(kinds) >= {"none", 0, 1, 2, 3}, kinds)

    def test_the_moduli_themselves(self):
        # The search above asks stands; here the modulus is computed by minors.
        for rights, today, known, wall in samples(103, 40):
            for names in sets_to_end(rights, today, known, wall):
                rows = tuple(row for row in rows_left(rights, today, known, wall, names) if row != ())
                if few_rows(rows):
                    g = plain_modulus(rows, wall[1])
                    self.assertTrue(g != 0 and (wall[2] == 0 or g % wall[2] != 0))


class GivePapers(unittest.TestCase):
    def paper(self, rights, today, known, wall):
        case = {"rights": rights, "today": today, "known": known, "wall": wall}
        paper = both_ways(self, give_paper, **case)
        found = plain_sets(rights, today, known, wall)
        self.assertIs(paper is None, found == ())
        if paper is not None:
            names = both_ways(self, lets_give, **case, thing=paper)
            self.assertEqual(plain_lets_give(tuple(case.values()), paper), names)
            self.assertIn(names, found)
            self.assertEqual(names, paper[0])
        return paper

    def test_example(self):
        self.assertTrue(give_paper(RIGHTS, 0, (A,), WALL) is None)

    def test_edges(self):
        self.assertEqual(self.paper((), 0, (), WALL)[::2], ((), ()))
        self.assertEqual(self.paper(RIGHTS, 0, (), (("bob",), A, 0))[0], ())
        self.assertEqual(len(self.paper(RIGHTS, 0, (), WALL)[2]), 2)
        self.assertIsNone(self.paper(RIGHTS, 0, (), (("ann",), (), 2)))

    def test_random_rights(self):
        for case in samples(104, 100):
            self.paper(*case)


class FewestPapers(unittest.TestCase):
    def paper(self, rights, today, known, wall):
        case = {"rights": rights, "today": today, "known": known, "wall": wall}
        paper = both_ways(self, fewest_paper, **case)
        many = both_ways(self, lets_fewest, **case, thing=paper)
        self.assertEqual(plain_lets_fewest(tuple(case.values()), paper), many)
        found = plain_sets(rights, today, known, wall)
        self.assertEqual(many, min(len(names) for names in found) if found else None)
        self.assertEqual(paper[0], "fewest" if found else "never")
        return paper

    def test_example(self):
        self.assertEqual(fewest_paper(RIGHTS, 0, (A,), WALL)[0], "never")

    def test_edges(self):
        self.assertEqual(self.paper(RIGHTS, 0, (A,), WALL), NEVER)
        self.assertEqual(self.paper((), 0, (), WALL)[1::2], ((), ()))
        self.assertEqual(self.paper(RIGHTS, 0, (), (("bob",), A, 0))[3], ())
        self.assertEqual(self.paper((), 0, (), (("ann",), (), 2)), ("never", (), ()))
        self.assertEqual(self.paper(RIGHTS, 0, (), WALL)[1], ("diff", "lone"))

    def test_equal_rights(self):
        for many in range(1, 7):
            paper = self.paper(named(*[once("ann", 2)] * many), 0, (), (("ann",), A, 0))
            self.assertEqual((len(paper[1]), node_depth(paper[3])), (many, many))

    def test_many_nodes(self):
        # Any two of these rights give a and b apart, so four have to be given up, and each node uses two.
        rights = named(*[once("ann", 1, k) for k in (1, 2, 3, -1, -2)])
        paper = self.paper(rights, 0, (), (("ann",), A, 0))
        self.assertEqual((len(paper[1]), node_depth(paper[3])), (4, 4))
        self.assertEqual(len(list(walked(paper[3]))), 15)

    def test_random_rights(self):
        sizes = {}
        for case in samples(105, 120):
            paper = self.paper(*case)
            size = len(paper[1]) if paper[0] == "fewest" else "never"
            sizes[size] = sizes.get(size, 0) + 1
        self.assertTrue(set(sizes) >= {"never", 0, 1, 2, 3}, sizes)


class Checkers(unittest.TestCase):
    def give(self, thing, case=(RIGHTS, 0, (), WALL)):
        return both_ways(self, lets_give, **dict(zip(("rights", "today", "known", "wall"), case)), thing=thing)

    def give_fault(self, thing, case=(RIGHTS, 0, (), WALL)):
        return paper_fault(self, InvalidPaper, lets_give, **dict(zip(("rights", "today", "known", "wall"), case)), thing=thing)

    def fewest(self, thing, case=(RIGHTS, 0, (), WALL)):
        return both_ways(self, lets_fewest, **dict(zip(("rights", "today", "known", "wall"), case)), thing=thing)

    def fewest_fault(self, thing, case=(RIGHTS, 0, (), WALL)):
        return paper_fault(self, InvalidPaper, lets_fewest, **dict(zip(("rights", "today", "known", "wall"), case)), thing=thing)

    def test_examples(self):
        self.assertEqual(lets_give(RIGHTS, 0, (), WALL, GIVE), ("diff", "lone"))
        with self.assertRaises(InvalidPaper) as caught:
            lets_give(RIGHTS, 0, (), WALL, (("lone",), CHANGE, ()))
        self.assertEqual((caught.exception.word, caught.exception.at), ("row", 0))
        self.assertEqual(lets_fewest(RIGHTS, 0, (), WALL, FEWEST), 2)

    def test_any_value_as_give_paper(self):
        names, change, reasons = GIVE
        other = [GIVE[:2], GIVE + ((),), list(GIVE), (list(names), change, reasons), (("Diff",), change, reasons),
                 (names, list(change), reasons), (names, change, list(reasons)), (names, None, reasons),
                 (names, change, (list(reasons[0]), reasons[1])), (names, change, (reasons[0][:1], reasons[1])),
                 (names, change, (reasons[0] + ((),), reasons[1])), (names, change, ((((2, 4),), ()),)),
                 (names, change, (((1, 2), ()),)), (names, change, ((((1, 2), (1, 2)), None), reasons[1])),
                 ("diff", change, reasons), (names, change, reasons[0]), (names, ((("a", 0), True),), reasons)]
        for thing in ANY_VALUES + other:
            self.assertEqual(self.give_fault(thing), ("shape", -1), thing)

    def test_words_of_give_papers(self):
        names, change, reasons = GIVE
        self.assertEqual(self.give_fault((("lone", "diff"), change, reasons)), ("names", -1))
        self.assertEqual(self.give_fault((("diff", "diff"), change, reasons)), ("names", -1))
        self.assertEqual(self.give_fault((("diff", "x"), change, reasons)), ("names", -1))
        self.assertEqual(self.give_fault((("lone",), change, ()), (RIGHTS, 0, (), (("ann",), A, 0))), ("names", -1))
        self.assertEqual(self.give_fault(((), change, ())), ("row", 0))
        self.assertEqual(self.give_fault((("diff",), change, ())), ("row", 0))
        self.assertEqual(self.give_fault((names, A, reasons)), ("row", 0))
        self.assertEqual(self.give_fault((names, change, reasons), (RIGHTS, 0, (C, PLUS, A), WALL)), ("row", 2))
        self.assertEqual(self.give_fault((names, (), reasons)), ("effect", -1))
        self.assertEqual(self.give_fault((names, C, reasons)), ("effect", -1))
        self.assertEqual(self.give_fault((names, scale_row(change, 2), reasons), (RIGHTS, 0, (), (WALL[0], A, 2))), ("effect", -1))
        self.assertEqual(self.give_fault((names, change, ())), ("reasons", -1))
        self.assertEqual(self.give_fault((names, change, reasons * 2)), ("reasons", -1))
        self.assertEqual(self.give_fault((("diff", "lone", "plus"), A, reasons)), ("reasons", -1))
        self.assertEqual(self.give_fault((names, change, reasons[::-1])), ("sum", (0, -1)))
        self.assertEqual(self.give_fault((names, change, (reasons[0], reasons[0]))), ("sum", (1, -1)))
        self.assertEqual(self.give_fault((names, change, (reasons[0], ((), ())))), ("many", (1, -1)))
        self.assertEqual(self.give_fault((names, change, ((((1, 2),) * 3, ()), ((), ())))), ("many", (0, -1)))
        self.assertEqual(self.give_fault((names, change, ((reasons[0][0], A), reasons[1]))), ("rest", (0, -1)))
        self.assertEqual(self.give_fault((names, change, ((reasons[1][0], A), reasons[1]))), ("rest", (0, -1)))

    def test_other_give_papers(self):
        names, change, reasons = GIVE
        self.assertEqual(self.give((names, scale_row(change, -7), reasons)), names)
        self.assertEqual(self.give((("lone", "plus"), ((("a", 0), 1), (("b", 0), 1)), ((((1, 1), (1, 1)), ()), (((1, 2), (1, 2)), ())))), ("lone", "plus"))
        # A set that is sufficient but not minimal has no reasons that are right.
        self.assertEqual(self.give_fault((("diff", "lone", "plus"), A, ((((1, 1),), ()),) * 3)), ("sum", (0, -1)))

    def test_any_value_as_fewest_paper(self):
        word, names, change, node = FEWEST
        other = [FEWEST[:3], FEWEST + ((),), list(FEWEST), (word, list(names), change, node), (word, ("X",), change, node),
                 (word, names, list(change), node), (word, names, change, list(node)), (word, names, change, None),
                 (word, names, change, node[:2]), (word, names, change, node + ((),)), (word, names, change, []),
                 (word, names, change, (node[0], node[1], list(node[2]))), (word, names, change, (list(node[0]),) + node[1:]),
                 (word, names, change, (node[0], None, node[2])), (word, names, change, node[:2] + ((("diff",),),)),
                 (word, names, change, node[:2] + ((["diff", LEFT],),)), (word, names, change, node[:2] + ((("diff", ()),),)),
                 (word, names, change, node[:2] + ((("Diff", LEFT),),)), (word, names, change, node[:2] + (("diff", LEFT),)),
                 ("never",), ("never", ()), ("never", (), (), ()), ("never", ((2, 2),), ()), ("never", [], ()),
                 ("never", (), None), ["never", (), ()], ("nevers", (), ()), ("fewest", (), ()), ("never", (), (), (), ()),
                 ("never", names, change, node), (True, names, change, node), ("fewest", ((1, 1),), ())]
        for thing in ANY_VALUES + other:
            self.assertEqual(self.fewest_fault(thing), ("shape", -1), thing)

    def nest(self, depth):
        node = (((1, 1),), (), ())
        for k in range(depth - 1):
            node = (((1, 1),), (), (("p", node),))
        return node

    def test_depth(self):
        case = (named(*[once("ann", 1)] * 7), 0, (), (("ann",), A, 0))
        for depth in range(1, 7):
            self.assertNotEqual(self.fewest_fault(("fewest", (), A, self.nest(depth)), case), ("shape", -1))
        for depth in (7, 8, 9):
            self.assertEqual(self.fewest_fault(("fewest", (), A, self.nest(depth)), case), ("shape", -1))
        six = (named(*[once("ann", 1)] * 6), 0, (), (("ann",), A, 0))
        self.assertEqual(self.fewest(fewest_paper(*six), six), 6)

    def test_words_of_fewest_papers(self):
        word, names, change, node = FEWEST
        known = (RIGHTS, 0, (A,), WALL)
        self.assertIsNone(self.fewest(NEVER, known))
        self.assertEqual(self.fewest_fault(("never", (), ()), known), ("many", -1))
        self.assertEqual(self.fewest_fault(NEVER), ("many", -1))
        self.assertEqual(self.fewest_fault(("never", ((1, 1),), A), known), ("rest", -1))
        self.assertEqual(self.fewest_fault(("never", ((1, 2),), ()), known), ("sum", -1))
        self.assertEqual(self.fewest_fault(("never", (), ())), ("sum", -1))
        self.assertIsNone(self.fewest(("never", (), A), (RIGHTS, 0, (), (("ann",), scale_row(A, 5), 5))))
        self.assertEqual(self.fewest_fault((word, names[::-1], change, node)), ("names", -1))
        self.assertEqual(self.fewest_fault((word, ("x",), change, node)), ("names", -1))
        self.assertEqual(self.fewest_fault((word, names, A, node)), ("row", 0))
        self.assertEqual(self.fewest_fault((word, names, C, node)), ("effect", -1))
        self.assertEqual(self.fewest_fault((word, names, change, ())), ("node", ()))
        self.assertEqual(self.fewest_fault((word, (), A, node), (RIGHTS, 1, (), WALL)), ("node", ()))
        self.assertEqual(self.fewest((word, (), A, ()), (RIGHTS, 1, (), WALL)), 0)

    def test_words_of_nodes(self):
        word, names, change, (fractions, rest, children) = FEWEST

        def fault(*node):
            return self.fewest_fault((word, names, change, node))
        self.assertEqual(fault(fractions[:2], rest, children), ("many", ((), -1)))
        self.assertEqual(fault(fractions, A, children), ("rest", ((), -1)))
        self.assertEqual(fault(((1, 1),) * 3, rest, children), ("sum", ((), -1)))
        self.assertEqual(fault(fractions, rest, ()), ("children", ()))
        self.assertEqual(fault(fractions, rest, children[:1]), ("children", ()))
        self.assertEqual(fault(fractions, rest, children[::-1]), ("children", ()))
        self.assertEqual(fault(fractions, rest, children + children[1:]), ("children", ()))
        self.assertEqual(fault(fractions, rest, children[:1] + (("lone", LEFT),)), ("children", ()))
        self.assertEqual(fault(fractions, rest, (("diff", RIGHT), children[1])), ("sum", (("diff",), -1)))
        self.assertEqual(fault(fractions, rest, (children[0], ("plus", LEFT))), ("sum", (("plus",), -1)))
        self.assertEqual(fault(fractions, rest, (children[0], ("plus", (((1, 1),), (), ())))), ("many", (("plus",), -1)))
        self.assertEqual(fault(fractions, rest, (("diff", LEFT[:2] + ((("plus", RIGHT),),)), children[1])), ("children", ("diff",)))
        # Another way to make the wall fall uses other rights.
        one = (((1, 1), (1, 1), (0, 1)), (), (("diff", LEFT), ("lone", (((1, 2), (1, 2)), (), ()))))
        self.assertEqual(self.fewest((word, names, change, one)), 2)
        two = (((3, 4), (1, 2), (1, 4)), (), (("diff", LEFT), ("lone", (((1, 2), (1, 2)), (), ())), ("plus", RIGHT)))
        self.assertEqual(self.fewest((word, names, change, two)), 2)
        self.assertEqual(self.fewest_fault((word, names, change, two[:2] + (two[2][::2],))), ("children", ()))

    def test_known_rows_and_zero_rows(self):
        # A fraction of a known row uses no right; one of a zero row of a right does.
        rights = named(("ann", (("a", 1),), 0, 2, ("total", 1)), once("ann", 1))
        case = (rights, 0, (C,), (("ann",), A, 0))
        self.assertEqual(fewest_to_end(*case), 1)
        node = (((0, 1), (5, 1), (0, 1), (0, 1), (1, 1)), (), ())
        self.assertEqual(self.fewest(("fewest", ("q",), A, node), case), 1)
        twice = (named(*([rights[0][1]] + [once("ann", 1)] * 2)), 0, (C,), (("ann",), A, 0))
        leaf = (((0, 1),) * 4 + ((1, 1),), (), ())
        none = (((0, 1), (1, 1), (0, 1)), (), ())
        good = (((0, 1),) * 4 + ((1, 1), (0, 1)), (), (("q", leaf),))
        self.assertEqual(self.fewest(("fewest", ("q", "r"), A, good), twice), 2)
        zero = (((0, 1), (5, 1), (0, 1), (0, 1), (1, 1), (0, 1)), (), (("q", leaf),))
        self.assertEqual(self.fewest_fault(("fewest", ("q", "r"), A, zero), twice), ("children", ()))
        full = zero[:2] + ((("p", none), ("q", leaf)),)
        self.assertEqual(self.fewest(("fewest", ("q", "r"), A, full), twice), 2)

    def test_a_set_that_is_not_the_smallest(self):
        rights = named(once("ann", 1, 1), once("ann", 0, 1), once("ann", 0, 3))
        case = (rights, 0, (), (("ann",), A, 0))
        node = (((1, 1), (-1, 1), (0, 1)), (), (("p", (((0, 1), (0, 1)), (), ())), ("q", (((1, 1), (-1, 3)), (), ()))))
        self.assertEqual(self.fewest_fault(("fewest", ("q", "r"), ((("a", 0), 1), (("b", 0), -1)), node), case), ("sum", (("p",), -1)))
        self.assertEqual(self.fewest(fewest_paper(*case), case), 1)

    def test_changed_papers(self):
        found = {}
        source = random.Random(106)
        cases = [(RIGHTS, 0, (), WALL), (RIGHTS, 0, (A,), WALL), (RIGHTS, 0, (), (("bob",), A, 0)),
                 (RIGHTS, 0, (), (WALL[0], scale_row(A, 2), 4))]
        cases += [case for case in samples(107, 40) if len(repr(fewest_paper(*case))) < 500][:12]
        for case in cases:
            others = (None, True, 0, "never", "fewest", (), [], (0, 1), (1, 2), A) + tuple(dict(case[0]))
            give, fewest = give_paper(*case), fewest_paper(*case)
            for thing in mutants(give or GIVE, others):
                self.compare(found, lets_give, case, thing, plain_lets_give(case, thing))
            for thing in mutants(fewest, others):
                self.compare(found, lets_fewest, case, thing, plain_lets_fewest(case, thing))
            if fewest[0] == "fewest":
                # Whole parts are exchanged, too.
                nodes = [node for path, node in walked(fewest[3])] if fewest[3] else [()]
                for k in range(4):
                    self.compare(found, lets_fewest, case, *self.exchanged(case, fewest, source.choice(nodes)))
        for word in ("shape", "names", "row", "effect", "reasons", "many", "rest", "sum", "node", "children"):
            self.assertGreater(found.get(word, 0), 0, (word, found))

    def exchanged(self, case, paper, node):
        thing = paper[:3] + (node,)
        return thing, plain_lets_fewest(case, thing)

    def compare(self, found, checker, case, thing, wanted):
        if isinstance(wanted, tuple) and wanted != () and not isinstance(wanted[-1], str):
            with self.assertRaises(InvalidPaper) as caught:
                checker(*case, thing)
            self.assertEqual((caught.exception.word, caught.exception.at), wanted, thing)
            found[wanted[0]] = found.get(wanted[0], 0) + 1
        else:
            self.assertEqual(checker(*case, thing), wanted)

    def test_family(self):
        for error in (PaperError, AskError, ValueError):
            self.assertRaises(error, lets_give, RIGHTS, 0, (), WALL, None)
            self.assertRaises(error, lets_fewest, RIGHTS, 0, (), WALL, None)


if __name__ == "__main__":
    unittest.main()
