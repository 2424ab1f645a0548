"""[31], [32], [35], [36], [8] (G1): histories, compared with the complete data."""

import unittest

from askrights.archivechecker import lets_archive
from askrights.archives import archive_rows, first_archive
from askrights.bases import basis_of
from askrights.errors import ArchiveError, InvalidStep
from askrights.evenings import keep_of, shown_by
from askrights.histories import archives_of, data_of, shown_in
from askrights.kinds import is_data
from askrights.spans import in_span
from askrights.steps import barred_by, done
from tests.helpers import A0, A1, ANY_VALUES, B0, B1, both_ways
from tests.righthelpers import WINDOW, PlainArchive, plain_needed, random_history

HISTORY = (("a",), (("enter", "a", 5), ("grant", "r", WINDOW), ("evening",), ("enter", "a", 7),
                    ("correct", "a", 0, -2), ("evening",)))


class Histories(unittest.TestCase):
    def test_examples(self):
        self.assertEqual([archives_of(HISTORY)[6][3], data_of(HISTORY)],
                         [((((("a", 1), 1),), 7),), ((("a", 0), 3), (("a", 1), 7))])
        self.assertEqual(shown_in(HISTORY), ((1, "r", "ann", ((("a", 0), 1), (("a", 1), 1)), 10),))

    def test_no_steps(self):
        for accounts in (("a",), ("a", "b", "c")):
            history = (accounts, ())
            self.assertEqual(both_ways(self, archives_of, history=history), (first_archive(accounts),))
            self.assertEqual(both_ways(self, data_of, history=history), ())
            self.assertEqual(both_ways(self, shown_in, history=history), ())

    def test_data(self):
        steps = (("enter", "b", 5), ("enter", "b", -5), ("enter", "a", 0), ("evening",), ("correct", "a", 0, 4),
                 ("correct", "b", 0, 2), ("correct", "a", 0, -4), ("enter", "a", 1), ("enter", "a", 1), ("evening",),
                 ("correct", "a", 1, 10), ("correct", "b", 1, -10), ("enter", "a", 3))
        self.assertEqual(data_of((("a", "b"), steps)), ((A1, 12), (("a", 2), 3), (B0, 2), (B1, -10)))
        self.assertEqual(data_of((("a", "b"), steps[:3])), ())
        self.assertEqual(data_of((("a", "b"), steps[:5])), ((A0, 4),))

    def test_later_corrections_do_not_change_what_was_shown(self):
        total = ("ann", (("a", 1),), 0, 2, ("total", 0))
        steps = (("grant", "t", total), ("enter", "a", 5), ("evening",), ("correct", "a", 0, 100), ("evening",),
                 ("correct", "a", 1, 7), ("correct", "a", 0, -100), ("evening",))
        self.assertEqual([answer[-1] for answer in shown_in((("a",), steps))], [5, 105, 12])

    def test_order_of_shown_answers(self):
        one = ("ann", (("a", 1),), 0, 1, ("window", 1))
        steps = (("grant", "z", one), ("grant", "b", one), ("evening",), ("grant", "a", one), ("evening",))
        self.assertEqual([answer[:3] for answer in shown_in((("a",), steps))],
                         [(0, "b", "ann"), (0, "z", "ann"), (1, "a", "ann"), (1, "b", "ann"), (1, "z", "ann")])


class BarredHistories(unittest.TestCase):
    def fault(self, *steps, accounts=("a", "b")):
        found = []
        for function in (archives_of, data_of, shown_in):
            for call in (lambda: function((accounts, steps)), lambda: function(history=(accounts, steps))):
                with self.assertRaises(InvalidStep) as caught:
                    call()
                self.assertIsInstance(caught.exception, ArchiveError)
                at = [one is caught.exception.step for one in steps].index(True)
                found.append((at, caught.exception.reason))
        self.assertEqual(found, found[:1] * 6)
        return found[0]

    def test_shapes(self):
        for thing in ANY_VALUES + [("enter", "a", True), ["evening"], ("evening", 1), ("open", "m", ("a",)), ("end",)]:
            self.assertEqual(self.fault(("evening",), thing, ("end", "r")), (1, "shape"))

    def test_words(self):
        self.assertEqual(self.fault(("enter", "c", 1)), (0, "account"))
        self.assertEqual(self.fault(("evening",), ("correct", "a", 1, 1)), (1, "day"))
        self.assertEqual(self.fault(("evening",), ("correct", "a", 0, 1), ("correct", "c", 9, 1)), (2, "account"))
        self.assertEqual(self.fault(("grant", "r", WINDOW), ("grant", "r", WINDOW)), (1, "name"))
        self.assertEqual(self.fault(("grant", "r", WINDOW), accounts=("b",)), (0, "account"))
        four = (("evening",),) * 4
        self.assertEqual(self.fault(*four, ("grant", "r", WINDOW)), (4, "over"))
        self.assertEqual(self.fault(("evening",), ("grant", "r", WINDOW)), (1, "lost"))
        self.assertEqual(self.fault(("end", "r")), (0, "name"))
        self.assertEqual(self.fault(("grant", "r", WINDOW), *four, ("end", "r")), (5, "name"))
        halve = ("halve", "r", ("a",), "s", "t")
        self.assertEqual(self.fault(halve), (0, "name"))
        self.assertEqual(self.fault(("grant", "r", WINDOW), halve), (1, "side"))

    def test_the_first_one_is_raised(self):
        self.assertEqual(self.fault(("enter", "c", 1), None), (0, "account"))
        self.assertEqual(self.fault(None, ("enter", "c", 1)), (0, "shape"))


class ComparedHistories(unittest.TestCase):
    def check_archive(self, archive, plain):
        """The archive is the one that follows from the complete data, and it is accepted."""
        self.assertEqual(archive[:3], (plain.accounts, plain.today, plain.named()))
        self.assertEqual(tuple(row for row, value in archive[3]), basis_of(plain.past))
        self.assertEqual([value for row, value in archive[3]], [plain.value(row) for row, value in archive[3]])
        self.assertEqual(archive[4], plain.current())
        self.assertEqual(lets_archive(archive), len(archive[3]))

    def test_many_histories(self):
        words = {}
        answers = 0
        for seed in range(200):
            accounts, tried = random_history(seed)
            plain = PlainArchive(accounts)
            steps = ()
            archive = first_archive(accounts)
            for step, word in tried:
                self.assertEqual(barred_by(archive, step), word, (seed, steps, step))
                words[step[0], word] = words.get((step[0], word), 0) + 1
                if word is None:
                    archive = done(archive, step)
                    plain.do(step)
                    steps += (step,)
                    self.check_archive(archive, plain)
            history = (accounts, steps)
            archives = both_ways(self, archives_of, history=history)
            self.assertEqual((len(archives), archives[-1]), (len(steps) + 1, archive))
            self.assertEqual(both_ways(self, data_of, history=history), plain.complete())
            self.assertIs(is_data(data_of(history)), True)
            self.assertEqual(both_ways(self, shown_in, history=history), tuple(plain.shown))
            answers += len(plain.shown)
        for word in ("name", "account", "over", "lost", None):
            self.assertGreater(words.get(("grant", word), 0), 5, (word, words))
        for word in ("name", "account", "side", "fresh", "lost", None):
            self.assertGreater(words.get(("halve", word), 0), 2, (word, words))
        self.assertGreater(answers, 500)

    def test_forgetting_at_once_is_the_same(self):
        for seed in range(100, 130):
            accounts, tried = random_history(seed, 60)
            steps = tuple(step for step, word in tried if word is None)
            archives = archives_of((accounts, steps))
            for at, step in enumerate(steps):
                if step == ("evening",):
                    after = archives[at + 1]
                    data = data_of((accounts, steps[:at + 1]))
                    self.assertEqual(after[3], keep_of(after[2], data, archives[at][1]))

    def test_a_granted_right_adds_nothing_to_the_span(self):
        granted = 0
        for seed in range(200, 220):
            accounts, tried = random_history(seed)
            steps = tuple(step for step, word in tried if word is None)
            archives = archives_of((accounts, steps))
            for archive, step in zip(archives, steps):
                if step[0] == "grant":
                    granted += 1
                    for row in plain_needed((step[1:],), archive[1]):
                        self.assertIs(in_span(archive_rows(archive), row), True)
        self.assertGreater(granted, 20)

    def test_halving_changes_no_sum_of_answers(self):
        whole = ("ann", (("a", 2), ("b", -1), ("c", 3)), 0, 4, ("window", 3))
        entries = (("enter", "a", 4), ("enter", "b", 9), ("enter", "c", -2), ("evening",), ("enter", "b", 8))
        one = (("grant", "r", whole),) + entries + (("evening",),) * 4
        other = (("grant", "r", whole), ("halve", "r", ("a", "c"), "x", "y")) + entries + (("evening",),) * 4
        sums = {}
        for day, name, person, question, value in shown_in((("a", "b", "c"), other)):
            sums[day] = sums.get(day, 0) + value
        self.assertEqual(sums, {day: value for day, name, person, question, value in shown_in((("a", "b", "c"), one))})

    def test_day_ten(self):
        total = ("ann", (("a", 1),), 0, 9, ("total", 0))
        steps = (("grant", "t", total),) + (("enter", "a", 3), ("evening",)) * 10
        history = (("a",), steps)
        self.assertEqual(archives_of(history)[-1], (("a",), 10, (), (), (("a", 0),)))
        self.assertEqual([answer[-1] for answer in shown_in(history)], [3 * day for day in range(1, 11)])
        self.assertEqual(shown_by(archives_of(history)[-1]), ())


if __name__ == "__main__":
    unittest.main()
