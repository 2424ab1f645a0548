"""[6], [27]: the first archive, the rows of an archive, and the checker of archives."""

import random
import unittest

from askrights.archivechecker import lets_archive
from askrights.archives import archive_rows, first_archive
from askrights.bases import basis_of
from askrights.errors import InvalidPaper, PaperError
from askrights.rightkinds import is_archive
from tests.helpers import A0, A1, ANY_VALUES, B0, B1, SUM, both_ways, paper_fault
from tests.righthelpers import (ARCHIVE, SIXTY, TOTAL, WINDOW, mutants, plain_needed, plain_span, random_right,
                                right_of)

A2 = ("a", 2)
DAY = (("a", 0), ("b", 0))


def plain_fault(thing):
    """The first reason of [27], or the number of rows of kept."""
    if not is_archive(thing):
        return ("shape", -1)
    accounts, today, rights, kept, current = thing
    if accounts == () or sorted(set(accounts)) != list(accounts):
        return ("accounts", -1)
    for k, (name, right) in enumerate(rights):
        if name in [other for other, one in rights[:k]] or (k and name < rights[k - 1][0]):
            return ("name", k)
        if {account for account, number in right[1]} - set(accounts):
            return ("account", k)
        if right[3] < today:
            return ("last", k)
    if [name for name, number in current] != list(accounts):
        return ("current", -1)
    rows = [row for row, value in kept]
    for k, row in enumerate(rows):
        if [cell for cell, number in row if cell[0] not in accounts or cell[1] >= today]:
            return ("cell", k)
    if list(basis_of(tuple(rows))) != rows:
        return ("basis", -1)
    rows += [(((account, today), 1),) for account in accounts]
    for k, pair in enumerate(rights):
        if not all(plain_span(rows, row) for row in plain_needed((pair,), today)):
            return ("lost", k)
    return len(kept)


class FirstArchives(unittest.TestCase):
    def test_examples(self):
        self.assertEqual(first_archive(("a", "b")), (("a", "b"), 0, (), (), (("a", 0), ("b", 0))))
        self.assertEqual(archive_rows(first_archive(("a", "b"), today=2)), (((("a", 2), 1),), ((("b", 2), 1),)))

    def test_first_archives(self):
        for accounts in (("a",), ("a", "b", "c"), ("abcdefgh", "z")):
            self.assertEqual(both_ways(self, first_archive, accounts=accounts), first_archive(accounts, today=0))
            for today in (0, 1, 10):
                made = first_archive(accounts=accounts, today=today)
                self.assertEqual(made, (accounts, today, (), (), tuple((account, 0) for account in accounts)))
                self.assertEqual(lets_archive(made), 0)
        with self.assertRaises(TypeError):
            first_archive(("a",), 1)

    def test_rows(self):
        self.assertEqual(both_ways(self, archive_rows, archive=ARCHIVE), (SUM, ((A1, 1),), ((B1, 1),)))
        kept = ((((A0, 1), (B0, 2)), 4), (((A1, 3),), -6))
        wide = (("a", "b", "c"), 2, (), kept, (("a", 1), ("b", 2), ("c", 3)))
        self.assertEqual(both_ways(self, archive_rows, archive=wide),
                         (kept[0][0], kept[1][0], ((A2, 1),), ((("b", 2), 1),), ((("c", 2), 1),)))


class ArchiveChecker(unittest.TestCase):
    def fault(self, *thing):
        return paper_fault(self, InvalidPaper, lets_archive, thing=thing)

    def lets(self, *thing):
        return both_ways(self, lets_archive, thing=thing)

    def test_examples(self):
        self.assertEqual(lets_archive((("a",), 1, (), ((((("a", 0), 1),), 5),), (("a", 0),))), 1)
        with self.assertRaises(PaperError) as caught:
            lets_archive((("a",), 1, (), ((((("a", 0), 2),), 10),), (("a", 0),)))
        self.assertEqual((caught.exception.word, caught.exception.at), ("basis", -1))

    def test_any_value(self):
        for thing in ANY_VALUES:
            self.assertEqual(paper_fault(self, InvalidPaper, lets_archive, thing=thing), ("shape", -1))

    def test_shape_comes_first(self):
        self.assertEqual(self.fault((), 0, (), (), (("a", True),)), ("shape", -1))
        self.assertEqual(self.fault(("b", "a"), 0, (("r", WINDOW), ("q", WINDOW[:4])), (), ()), ("shape", -1))
        self.assertEqual(self.fault(("a",), 0, (), ((((A1, 1), (A0, 1)), 0),), ()), ("shape", -1))

    def test_accounts(self):
        for accounts in ((), ("b", "a"), ("a", "a"), ("a", "b", "a")):
            current = tuple((account, 0) for account in accounts)
            self.assertEqual(self.fault(accounts, 0, (), (), current), ("accounts", -1))
        self.assertEqual(self.fault((), 9, (("r", WINDOW), ("q", TOTAL)), ((SUM, 1), ((), 1)), ()), ("accounts", -1))

    def test_names(self):
        one, other = ("r", WINDOW), ("s", WINDOW)
        self.assertEqual(self.lets(("a",), 0, (one, other), (), DAY[:1]), 0)
        self.assertEqual(self.fault(("a",), 0, (other, one), (), DAY[:1]), ("name", 1))
        self.assertEqual(self.fault(("a",), 0, (one, one), (), DAY[:1]), ("name", 1))
        self.assertEqual(self.fault(("a",), 0, (one, other, other), (), DAY[:1]), ("name", 2))
        self.assertEqual(self.fault(("a",), 0, (one, other, one), (), ()), ("name", 2))

    def test_accounts_of_rights(self):
        self.assertEqual(self.fault(("a",), 0, (("s", TOTAL),), (), DAY[:1]), ("account", 0))
        self.assertEqual(self.fault(("a",), 0, (("r", WINDOW), ("s", TOTAL)), (), DAY[:1]), ("account", 1))
        self.assertEqual(self.fault(("b",), 0, (("r", WINDOW), ("s", TOTAL)), (), ()), ("account", 0))

    def test_last_days(self):
        self.assertEqual(self.fault(("a",), 4, (("r", WINDOW),), (), DAY[:1]), ("last", 0))
        far = ("q", right_of(("window", 1), 0, SIXTY))
        self.assertEqual(self.fault(("a",), 4, (far, ("r", WINDOW)), (), DAY[:1]), ("last", 1))
        self.assertEqual(self.lets(("a",), 3, (("r", right_of(("window", 1), 1, 3)),), (), DAY[:1]), 0)

    def test_the_order_within_a_right_and_among_rights(self):
        both = ("r", TOTAL)
        self.assertEqual(self.fault(("a",), 3, (both, both), (), ()), ("account", 0))
        self.assertEqual(self.fault(("a", "b"), 3, (both, both), (), ()), ("last", 0))
        window = ("r", WINDOW)
        self.assertEqual(self.fault(("a",), 3, (window, both), (), ()), ("name", 1))
        self.assertEqual(self.fault(("a",), 3, (window, ("s", TOTAL)), (), ()), ("account", 1))
        self.assertEqual(self.fault(("a", "b"), 3, (window, ("s", TOTAL), ("a", TOTAL)), (), ()), ("last", 1))

    def test_current(self):
        for current in ((), DAY, DAY[1:], DAY[:1] * 2, DAY[::-1]):
            self.assertEqual(self.fault(("a",), 0, (), ((((A0, 2),), 1),), current), ("current", -1))
        self.assertEqual(self.fault(("a", "b"), 0, (), (), DAY[::-1]), ("current", -1))
        self.assertEqual(self.fault(("a", "b"), 0, (), (), DAY[:1]), ("current", -1))
        self.assertEqual(self.fault(("a",), 3, (("r", WINDOW),), (), ()), ("current", -1))

    def test_cells(self):
        self.assertEqual(self.fault(("a",), 1, (), ((((B0, 2),), 1),), DAY[:1]), ("cell", 0))
        self.assertEqual(self.fault(("a",), 1, (), ((((A1, 2),), 1),), DAY[:1]), ("cell", 0))
        self.assertEqual(self.fault(("a",), 0, (), ((((A0, 1),), 1),), DAY[:1]), ("cell", 0))
        rows = (((A0, 3),), ((A0, 1), (A1, 1)), ((A0, 1), (A2, 1)))
        self.assertEqual(self.fault(("a",), 1, (), tuple((row, 0) for row in rows), DAY[:1]), ("cell", 1))
        self.assertEqual(self.fault(("a",), 2, (), tuple((row, 0) for row in rows), DAY[:1]), ("cell", 2))
        self.assertEqual(self.fault(("a",), 1, (("r", WINDOW),), ((((A1, 1),), 1),), DAY[:1]), ("cell", 0))

    def test_basis(self):
        bad = [(((A0, 2),),), (((A0, -1),),), ((),), (((A0, 1),), ((A0, 1),)), (((A1, 1),), ((A0, 1),)),
               (((A0, 1), (A1, 1)), ((A1, 1),)), (((A0, 1), (A1, -1)), ((A1, 2), (B0, 1))),
               (((A0, 2), (A1, 4)),), (((A0, 1),), ()), (((A0, 1), (A1, 1)), ((A1, 2),)),
               (((A0, 1), (A1, 1)), ((A0, 1), (A1, -1)))]
        for rows in bad:
            self.assertEqual(self.fault(("a", "b"), 2, (("r", WINDOW),), tuple((row, 7) for row in rows), DAY),
                             ("basis", -1))
        good = [(((A0, 1),), ((A1, 1),)), (((A0, 1), (A1, 1)), ((A1, 2), (B0, 1))), (((A0, 2), (A1, -3)),), (SUM,)]
        for rows in good:
            self.assertEqual(self.lets(("a", "b"), 2, (), tuple((row, -7) for row in rows), DAY), len(rows))

    def test_lost(self):
        total = ("s", right_of(("total", 0), 0, 5, (("a", 1), ("b", 1))))
        self.assertEqual(self.fault(("a", "b"), 1, (total,), (), DAY), ("lost", 0))
        self.assertEqual(self.lets(("a", "b"), 1, (total,), ((SUM, 5),), DAY), 1)
        # The kept sum cannot be divided into its two accounts.
        alone = ("t", right_of(("total", 0), 3, 5))
        self.assertEqual(self.fault(("a", "b"), 1, (total, alone), ((SUM, 5),), DAY), ("lost", 1))
        self.assertEqual(self.fault(("a", "b"), 1, (alone, ("u", total[1])), ((SUM, 5),), DAY), ("lost", 0))
        # The question of today is needed as well as those to come.
        today = ("r", right_of(("window", 2), 1, 1))
        self.assertEqual(self.fault(("a", "b"), 1, (today,), (), DAY), ("lost", 0))
        later = ("r", right_of(("window", 2), 2, 9))
        self.assertEqual(self.lets(("a", "b"), 1, (later,), (), DAY), 0)
        self.assertEqual(self.fault(("a", "b"), 2, (("r", right_of(("window", 4), 4, 5)),), (), DAY), ("lost", 0))

    def test_great_days(self):
        far = SIXTY - 1
        total = ("r", right_of(("total", 0), 0, SIXTY))
        self.assertEqual(self.fault(("a",), far, (total,), (), DAY[:1]), ("lost", 0))
        self.assertEqual(self.fault(("a",), 0, (("r", WINDOW), total), (), DAY[:1]), ("name", 1))
        self.assertEqual(self.lets(("a",), 0, (total,), (), DAY[:1]), 0)
        self.assertEqual(self.lets(("a",), 0, (("r", right_of(("window", SIXTY), 0, SIXTY)),), (), DAY[:1]), 0)
        self.assertEqual(self.fault(("a",), far, (("r", right_of(("window", SIXTY), 0, SIXTY)),), (), DAY[:1]),
                         ("lost", 0))
        self.assertEqual(self.fault(("a",), far, (("r", right_of(("period", 0, SIXTY), SIXTY, SIXTY)),), (), DAY[:1]),
                         ("lost", 0))
        self.assertEqual(self.lets(("a",), far, (("r", right_of(("total", far), 0, SIXTY)),), (), DAY[:1]), 0)
        self.assertEqual(self.lets(("a",), far, (("r", right_of(("window", 1), 0, SIXTY)),), (), DAY[:1]), 0)
        self.assertEqual(self.fault(("a",), 0, (), ((((("a", far), 1),), 0),), DAY[:1]), ("cell", 0))
        self.assertEqual(self.lets(("a",), SIXTY, (), ((((("a", far), 1),), 0),), DAY[:1]), 1)

    def test_changed_archives(self):
        kept = ((((A0, 1), (B0, 1), (B1, 2)), 7), (((A1, 1),), 3))
        larger = (("a", "b"), 2, (("one", right_of(("window", 2), 1, 4)),
                                  ("two", ("bob", (("a", 1), ("b", 1)), 2, 3, ("period", 2, 3)))), kept, DAY)
        found = {}
        for archive in (ARCHIVE, larger):
            self.assertEqual(self.lets(*archive), len(archive[3]))
            for thing in mutants(archive, (None, True, False, 0, 1, -1, 2, "", "b", "zz", (), [], ((), 0))):
                self.assertTrue(thing is not archive)
                wanted = plain_fault(thing)
                if isinstance(wanted, int):
                    self.assertEqual(lets_archive(thing), wanted, thing)
                else:
                    self.assertEqual(paper_fault(self, InvalidPaper, lets_archive, thing=thing), wanted, thing)
                    wanted = wanted[0]
                found[wanted] = found.get(wanted, 0) + 1
        for word in ("shape", "accounts", "name", "account", "last", "current", "cell", "basis", "lost"):
            self.assertGreater(found.get(word, 0), 1, (word, found))

    def test_random_archives(self):
        source = random.Random(54)
        words = set()
        for case in range(400):
            accounts = tuple(sorted(source.sample("abc", 2)))
            today = source.randint(0, 4)
            rights = tuple((name, random_right(source, accounts, 0, 6)) for name in ("q", "r")[:source.randint(0, 2)])
            needed = plain_needed(rights, today - 1) if today else ()
            part = tuple(row for row in needed if max(cell[1] for cell, number in row) < today)
            kept = tuple((row, source.randint(-9, 9)) for row in basis_of(part[source.randint(0, 1):]))
            archive = (accounts, today, rights, kept, tuple((account, 1) for account in accounts))
            wanted = plain_fault(archive)
            words.add(wanted if isinstance(wanted, int) else wanted[0])
            if isinstance(wanted, int):
                self.assertEqual(self.lets(*archive), wanted)
            else:
                self.assertEqual(self.fault(*archive), wanted)
        self.assertTrue(words > {"lost", "last", 0, 1})


if __name__ == "__main__":
    unittest.main()
