"""[33], [34], [36]: merging and splitting archives."""

import unittest

from askrights.archivechecker import lets_archive
from askrights.archives import first_archive
from askrights.errors import ArchiveError, InvalidStep
from askrights.evenings import shown_by
from askrights.merging import merge_bar, merged, split_archive, split_bar
from askrights.steps import done
from tests.helpers import A0, B0, both_ways
from tests.righthelpers import ARCHIVE, NAMES, TOTAL, renamed, right_of, sample_archives

C0 = ("c", 0)
OTHER = (("c", "d"), 1, (("one", right_of(("total", 0), 1, 3, (("c", 2),))),), ((((C0, 1),), -4),),
         (("c", 6), ("d", 0)))
BETWEEN = (("aa", "az", "zz"), 1, (), ((((("aa", 0), 2), (("az", 0), 1)), 5), (((("zz", 0), 1),), 6)),
           (("aa", 1), ("az", 2), ("zz", 3)))


def after(archive, *steps):
    for step in steps:
        archive = done(archive, step)
    return archive


class Merging(unittest.TestCase):
    def merge(self, one, other):
        self.assertIsNone(both_ways(self, merge_bar, one=one, other=other))
        return both_ways(self, merged, one=one, other=other)

    def bar(self, one, other):
        word = both_ways(self, merge_bar, one=one, other=other)
        for call in (lambda: merged(one, other), lambda: merged(one=one, other=other)):
            with self.assertRaises(InvalidStep) as caught:
                call()
            self.assertIsInstance(caught.exception, ArchiveError)
            self.assertEqual(caught.exception.step, ("merge", one, other))
            self.assertIs(caught.exception.step[1], one)
            self.assertIs(caught.exception.step[2], other)
            self.assertEqual(caught.exception.reason, word)
        return word

    def test_example(self):
        found = [merge_bar(first_archive(("a",)), first_archive(("b",), today=1)),
                 merged(first_archive(("a",)), first_archive(("b",)))]
        self.assertEqual(found, ["day", (("a", "b"), 0, (), (), (("a", 0), ("b", 0)))])

    def test_bars_alone(self):
        self.assertEqual(self.bar(ARCHIVE, first_archive(("c",))), "day")
        self.assertEqual(self.bar(ARCHIVE, first_archive(("c",), today=2)), "day")
        self.assertEqual(self.bar(ARCHIVE, first_archive(("b", "c"), today=1)), "account")
        self.assertEqual(self.bar(ARCHIVE, ARCHIVE), "account")
        named = after(first_archive(("c",), today=1), ("grant", "sum", right_of(("window", 1), weights=(("c", 1),))))
        self.assertEqual(self.bar(ARCHIVE, named), "name")
        self.assertEqual(self.bar(named, ARCHIVE), "name")

    def test_bars_in_order(self):
        later = ARCHIVE[:1] + (2,) + ARCHIVE[2:]
        self.assertEqual(self.bar(ARCHIVE, later), "day")
        self.assertEqual(self.bar(ARCHIVE, (("b",), 1, ARCHIVE[2], (), (("b", 0),))), "account")

    def test_merged(self):
        wanted = (("a", "b", "c", "d"), 1, OTHER[2] + ARCHIVE[2], ARCHIVE[3] + OTHER[3], ARCHIVE[4] + OTHER[4])
        self.assertEqual(self.merge(ARCHIVE, OTHER), wanted)
        self.assertEqual(self.merge(OTHER, ARCHIVE), wanted)
        self.assertEqual(lets_archive(wanted), 2)

    def test_kept_is_ordered_by_its_rows(self):
        found = self.merge(ARCHIVE, BETWEEN)
        self.assertEqual(found[0], ("a", "aa", "az", "b", "zz"))
        self.assertEqual(found[3], ARCHIVE[3] + BETWEEN[3])
        self.assertEqual([account for account, value in found[4]], list(found[0]))
        found = self.merge(found, OTHER)
        self.assertEqual([value for row, value in found[3]], [7, 5, -4, 6])
        self.assertEqual(lets_archive(found), 4)

    def test_without_rights_and_kept_rows_on_day_0(self):
        found = self.merge(first_archive(("b", "d")), first_archive(("a", "c")))
        self.assertEqual(found, first_archive(("a", "b", "c", "d")))


class Splitting(unittest.TestCase):
    def split(self, archive, accounts):
        self.assertIsNone(both_ways(self, split_bar, archive=archive, accounts=accounts))
        found = both_ways(self, split_archive, archive=archive, accounts=accounts)
        self.assertIsInstance(found, tuple)
        for part in found:
            self.assertEqual(lets_archive(part), len(part[3]))
        return found

    def bar(self, archive, *accounts):
        word = both_ways(self, split_bar, archive=archive, accounts=accounts)
        for call in (lambda: split_archive(archive, accounts), lambda: split_archive(archive=archive, accounts=accounts)):
            with self.assertRaises(InvalidStep) as caught:
                call()
            self.assertIsInstance(caught.exception, ArchiveError)
            self.assertEqual(caught.exception.step, ("split", archive, accounts))
            self.assertEqual(caught.exception.reason, word)
        return word

    def test_examples(self):
        self.assertEqual(split_archive(first_archive(("a", "b")), ("b",)),
                         ((("b",), 0, (), (), (("b", 0),)), (("a",), 0, (), (), (("a", 0),))))
        self.assertEqual(split_bar(done(first_archive(("a", "b")), ("grant", "s", TOTAL)), ("a",)), "right")

    def test_bars_alone(self):
        self.assertEqual(self.bar(ARCHIVE, "c"), "account")
        self.assertEqual(self.bar(ARCHIVE, "a", "c"), "account")
        self.assertEqual(self.bar(ARCHIVE, "a", "b", "c"), "account")
        self.assertEqual(self.bar(ARCHIVE), "side")
        self.assertEqual(self.bar(ARCHIVE, "a", "b"), "side")
        self.assertEqual(self.bar(first_archive(("a",)), "a"), "side")
        self.assertEqual(self.bar(ARCHIVE[:3] + ((), ARCHIVE[4]), "a"), "right")
        self.assertEqual(self.bar(ARCHIVE[:2] + ((), ARCHIVE[3], ARCHIVE[4]), "b"), "kept")

    def test_bars_in_order(self):
        self.assertEqual(self.bar(ARCHIVE, "a"), "right")
        self.assertEqual(self.bar(ARCHIVE, "b"), "right")
        three = (("a", "b", "c"), 1, (("r", right_of(("window", 1), weights=(("b", 1), ("c", 1)))),), ARCHIVE[3],
                 (("a", 0), ("b", 0), ("c", 0)))
        self.assertEqual(self.bar(three, "b"), "right")
        self.assertEqual(self.bar(three, "a", "b"), "right")
        self.assertEqual(self.bar(three, "a"), "kept")
        self.assertEqual(self.bar(three, "b", "c"), "kept")

    def test_after_the_next_evening_kept_does_not_bar(self):
        alone = done(ARCHIVE, ("end", "sum"))
        self.assertEqual(self.bar(alone, "a"), "kept")
        later = done(alone, ("evening",))
        self.assertEqual(self.split(later, ("a",)), (first_archive(("a",), today=2), first_archive(("b",), today=2)))

    def test_parts(self):
        both = merged(ARCHIVE, OTHER)
        self.assertEqual(self.split(both, ("a", "b")), (ARCHIVE, OTHER))
        self.assertEqual(self.split(both, ("c", "d")), (OTHER, ARCHIVE))
        found = self.split(both, ("d",))
        self.assertEqual(found[0], first_archive(("d",), today=1))
        self.assertEqual(found[1][0], ("a", "b", "c"))
        self.assertEqual(found[1][2:4], both[2:4])
        self.assertEqual(self.split(both, ("a", "b", "c"))[1], first_archive(("d",), today=1))

    def test_halves_can_be_split(self):
        whole = after(first_archive(("a", "b")), ("grant", "s", TOTAL), ("enter", "a", 4), ("enter", "b", 1))
        parts = after(whole, ("halve", "s", ("a",), "x", "y"), ("evening",))
        left, right = self.split(parts, ("b",))
        self.assertEqual(left, (("b",), 1, (("y", ("bob", (("b", -1),), 2, 2, ("total", 0))),), ((((B0, 1),), 1),), (("b", 0),)))
        self.assertEqual(right, (("a",), 1, (("x", ("bob", (("a", 1),), 2, 2, ("total", 0))),), ((((A0, 1),), 4),), (("a", 0),)))

    def test_merged_and_split_again(self):
        pairs = 0
        by_day = {}
        for archive, source in sample_archives(range(300, 340)):
            by_day.setdefault(archive[1], []).append(archive)
        for archives in by_day.values():
            for one, other in zip(archives, archives[1:]):
                other = renamed(other, zip("abc", ("ab", "ba", "zz")), zip(NAMES, ("a", "qq", "zz", "rs", "tu", "x", "y", "z")))
                both = merged(one, other)
                self.assertEqual(lets_archive(both), len(one[3]) + len(other[3]))
                self.assertEqual(merged(other, one), both)
                self.assertEqual(self.split(both, one[0]), (one, other))
                self.assertEqual(self.split(both, other[0]), (other, one))
                self.check_later(both, one, other)
                pairs += 1
        self.assertGreater(pairs, 60)

    def check_later(self, both, one, other):
        """Whether it was merged before or after an evening does not matter."""
        self.assertEqual(shown_by(both), tuple(sorted(shown_by(one) + shown_by(other))))
        evening = ("evening",)
        self.assertEqual(done(both, evening), merged(done(one, evening), done(other, evening)))


if __name__ == "__main__":
    unittest.main()
