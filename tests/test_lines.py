"""[72], [73], [76]: world steps as lines, and reading them."""

import random
import re
import unittest

from askrights.errors import AskError, InvalidText, TextError
from askrights.linereadings import read_log, read_step
from askrights.replaying import is_log, replayed
from askrights.rowlines import log_lines, step_line
from tests.helpers import both_ways
from tests.righthelpers import PERIOD, SIXTY, TOTAL, WINDOW
from tests.test_worlds import A_ROW, GRANT, STEPS, SUM_RIGHT, SUM_ROW, plain_world_step, snapshot
from tests.worldhelpers import random_log

WRITTEN = (
    (("open", "main", ("a", "b")), "open main a,b"),
    (("open", "m", ("a",)), "open m a"),
    (("enter", "a", 5), "enter a 5"),
    (("enter", "abcdefgh", -10), "enter abcdefgh -10"),
    (("enter", "a", 0), "enter a 0"),
    (("correct", "a", 0, -2), "correct a 0 -2"),
    (("correct", "a", 12, 30), "correct a 12 30"),
    (("evening",), "evening"),
    (("grant", "r", SUM_RIGHT), "grant r ann a:1,b:1 0 1 total 0"),
    (("grant", "r", WINDOW), "grant r ann a:1 1 3 window 2"),
    (("grant", "r", TOTAL), "grant r bob a:1,b:-1 2 2 total 0"),
    (("grant", "r", PERIOD), "grant r cy a:2,b:1,c:-3 0 9 period 2 4"),
    (("end", "r"), "end r"),
    (("halve", "r", ("a", "c"), "s", "t"), "halve r a,c s t"),
    (("merge", "one", "two", "one"), "merge one two one"),
    (("split", "main", ("a", "b"), "x", "y"), "split main a,b x y"),
    (("split", "main", (), "x", "y"), "split main - x y"),
    (("wall", "w", ("ann", "bob"), SUM_ROW, 0), "wall w ann,bob a.0:1,b.0:1 0"),
    (("wall", "w", ("ann",), ((("a", 0), 1), (("b", 1), -2)), 1000), "wall w ann a.0:1,b.1:-2 1000"),
    (("wall", "w", ("ann",), (), 2), "wall w ann - 2"),
    (("unwall", "w"), "unwall w"),
    (("enter", "a", SIXTY), "enter a " + "9" * 60),
    (("enter", "a", -SIXTY), "enter a -" + "9" * 60),
    (("grant", "r", ("ann", (("a", SIXTY),), SIXTY, SIXTY, ("period", SIXTY, SIXTY))),
     "grant r ann a:" + " ".join(["9" * 60] * 3) + " period " + " ".join(["9" * 60] * 2)),
    (("wall", "w", ("ann",), ((("a", SIXTY), -SIXTY),), SIXTY), "wall w ann a." + "9" * 60 + ":-" + "9" * 60 + " " + "9" * 60),
)

NAME = "[a-z]{1,8}"
NUMBER = "(0|[1-9][0-9]{0,59})"
INTEGER = "(0|-?[1-9][0-9]{0,59})"
NUMBERED = "-?[1-9][0-9]{0,59}"


def whole(pattern):
    return lambda word, words: re.fullmatch(pattern, word) is not None


def rises(items):
    return all(one < other for one, other in zip(items, items[1:]))


def names(word, words):
    return re.fullmatch(NAME + "(," + NAME + ")*", word) is not None and rises(word.split(","))


def weights(word, words):
    one = NAME + ":" + NUMBERED
    return re.fullmatch(one + "(," + one + ")*", word) is not None and rises([part.split(":")[0] for part in word.split(",")])


def question(word, words):
    one = NAME + r"\." + NUMBER + ":" + NUMBERED
    if word == "-":
        return True
    if re.fullmatch(one + "(," + one + ")*", word) is None:
        return False
    return rises([(part.split(".")[0], int(part.split(".")[1].split(":")[0])) for part in word.split(",")])


def side(word, words):
    return word == "-" or names(word, words)


def after(at):
    """A number that is not less than the word at this place."""
    return lambda word, words: re.fullmatch(NUMBER, word) is not None and int(word) >= int(words[at])


def length(word, words):
    return re.fullmatch(NUMBER, word) is not None and word != "0"


def modulus(word, words):
    return re.fullmatch(NUMBER, word) is not None and word != "1"


FORMS = {
    "open": [whole(NAME), names], "enter": [whole(NAME), whole(INTEGER)],
    "correct": [whole(NAME), whole(NUMBER), whole(INTEGER)], "evening": [], "end": [whole(NAME)], "unwall": [whole(NAME)],
    "grant": [whole(NAME), whole(NAME), weights, whole(NUMBER), after(4), whole("total|window|period")],
    "halve": [whole(NAME), names, whole(NAME), whole(NAME)], "merge": [whole(NAME)] * 3,
    "split": [whole(NAME), side, whole(NAME), whole(NAME)], "wall": [whole(NAME), names, question, modulus],
}
KINDS = {"total": [whole(NUMBER)], "window": [length], "period": [whole(NUMBER), after(7)]}


def plain_field(line):
    """The field of the first invalid or missing word, or None."""
    words = line.split(" ")
    if words[0] not in FORMS:
        return 0
    wanted = FORMS[words[0]] + (KINDS.get(words[6], []) if words[0] == "grant" and len(words) > 6 else [])
    for field, word in enumerate(words[1:], 1):
        if field > len(wanted) or not wanted[field - 1](word, words):
            return field
    missing = len(words) <= len(wanted) or (words[0] == "grant" and len(words) < 8)
    return len(words) if missing else None


def changed_lines(line, source):
    """The line with a character or a word changed, left out, repeated or exchanged."""
    for at in range(len(line) + 1):
        for sign in ("", " ", "-", "0", "1", "a", "z", ",", ":", ".", "A", "_", "~"):
            yield line[:at] + sign + line[at:]
            yield line[:at] + sign + line[at + 1:]
    for at in range(len(line) - 1):
        yield line[:at] + line[at + 1] + line[at] + line[at + 2:]
    words = line.split(" ")
    others = ["", "-", "0", "1", "-1", "00", "-0", "+1", "a", "b", "a,b", "b,a", "a,a", "a:1", "a.0:1", "total", "window",
              "period", "evening", "9" * 60, "9" * 61, "-" + "9" * 60, "-" + "9" * 61, "abcdefghi", "a:0", "a.0:0", "a.00:1",
              "a:1,a:2", "b:1,a:1", "a.1:1,a.0:1", "a.0:1,a.0:1", "a,", ",a", "a:", ":1", "a.1", "1.a", "--1", "2", "grant"]
    for at in range(len(words) + 1):
        for other in others:
            yield " ".join(words[:at] + [other] + words[at:])
            yield " ".join(words[:at] + [other] + words[at + 1:])
        yield " ".join(words[:at] + words[at + 1:])
        yield " ".join(words[:at])
        yield " ".join(words[:at] + words[at - 1:at] + words[at:])
    for k in range(5):
        yield " ".join(source.sample(words, len(words)))


class Writing(unittest.TestCase):
    def test_examples(self):
        self.assertEqual(step_line(("grant", "r", SUM_RIGHT)), "grant r ann a:1,b:1 0 1 total 0")
        self.assertEqual(log_lines((("wall", "w", ("ann", "bob"), SUM_ROW, 0), ("evening",))), ["wall w ann,bob a.0:1,b.0:1 0", "evening"])

    def test_each_form(self):
        for step, line in WRITTEN:
            self.assertTrue(plain_world_step(step))
            self.assertEqual(both_ways(self, step_line, step=step), line)
            self.assertEqual(both_ways(self, read_step, text=line), step)

    def test_logs(self):
        steps, lines = zip(*WRITTEN)
        self.assertEqual(both_ways(self, log_lines, log=steps), list(lines))
        self.assertEqual(both_ways(self, log_lines, log=()), [])
        self.assertIs(type(log_lines(steps)), list)

    def test_a_returned_list_belongs_to_the_caller(self):
        lines = log_lines(STEPS)
        lines.clear()
        self.assertEqual(len(log_lines(STEPS)), len(STEPS))

    def test_long_integers_are_written_in_full(self):
        self.assertEqual(step_line(("enter", "a", -10 ** 60)), "enter a -1" + "0" * 60)
        with self.assertRaises(InvalidText):
            read_step(step_line(("enter", "a", -10 ** 60)))


class Reading(unittest.TestCase):
    def fault(self, text):
        """The field of the error that both ways of the call raise for a single line."""
        faults = []
        for call in (lambda: read_step(text), lambda: read_step(text=text)):
            with self.assertRaises(InvalidText) as caught:
                call()
            faults.append((caught.exception.line, caught.exception.field))
            self.assertIsInstance(caught.exception, TextError)
            self.assertIsInstance(caught.exception, AskError)
        self.assertEqual(faults[0], faults[1])
        self.assertEqual(faults[0][0], 0)
        return faults[0][1]

    def test_examples(self):
        self.assertEqual(read_step("grant s bob a:-1 1 3 window 2"), ("grant", "s", ("bob", (("a", -1),), 1, 3, ("window", 2))))
        with self.assertRaises(InvalidText) as caught:
            read_log(["evening", "wall w ann a.0:1 1"])
        self.assertEqual((caught.exception.line, caught.exception.field), (1, 4))

    def test_empty_words(self):
        self.assertEqual(self.fault(""), 0)
        self.assertEqual(self.fault(" "), 0)
        self.assertEqual(self.fault(" evening"), 0)
        self.assertEqual(self.fault("evening "), 1)
        self.assertEqual(self.fault("enter  a 5"), 1)
        self.assertEqual(self.fault("enter a  5"), 2)
        self.assertEqual(self.fault("enter a 5 "), 3)
        self.assertEqual(self.fault("enter a "), 2)

    def test_missing_words(self):
        for step, line in WRITTEN:
            words = line.split(" ")
            for many in range(1, len(words)):
                self.assertEqual(self.fault(" ".join(words[:many])), many)
            self.assertEqual(self.fault(line + " x"), len(words))
            self.assertEqual(self.fault(line + " "), len(words))

    def test_single_words(self):
        for line, field in (("evenings", 0), ("Evening", 0), ("evening now", 1), ("open main", 2), ("open Main a", 1), ("open main a,a", 2),
                            ("open main b,a", 2), ("open main -", 2), ("open main a,,b", 2), ("open main a,", 2), ("open abcdefghi a", 1),
                            ("enter a 05", 2), ("enter a -0", 2), ("enter a +5", 2), ("enter a 5x", 2), ("enter a -", 2), ("enter 5 a", 1),
                            ("enter a " + "1" * 61, 2), ("enter a -" + "1" * 61, 2), ("correct a -1 2", 2), ("correct a 00 2", 2),
                            ("grant r ann a:0 0 1 total 0", 3), ("grant r ann b:1,a:1 0 1 total 0", 3), ("grant r ann a:1,a:1 0 1 total 0", 3),
                            ("grant r ann - 0 1 total 0", 3), ("grant r ann a:1 1 0 total 0", 5), ("grant r ann a:1 0 1 totals 0", 6),
                            ("grant r ann a:1 0 1 window 0", 7), ("grant r ann a:1 0 1 period 3 2", 8), ("grant r ann a:1 0 1 total 0 0", 8),
                            ("grant r ann a:1 0 1 period 3", 8), ("grant r ann a:1 0 1 window 1 2", 8), ("grant r ann a:1 x 1 bad", 4),
                            ("grant r ann a:1 0 1 0 total", 6), ("grant r ann a.0:1 0 1 total 0", 3), ("halve r - s t", 2),
                            ("halve r a s", 4), ("merge a b", 3), ("merge a b - d", 3), ("split main a,b x", 4), ("split main -,a x y", 2),
                            ("split - a x y", 1), ("wall w - a.0:1 0", 2), ("wall w bob,ann a.0:1 0", 2), ("wall w ann a:1 0", 3),
                            ("wall w ann b.0:1,a.0:1 0", 3), ("wall w ann a.1:1,a.0:1 0", 3), ("wall w ann a.0:0 0", 3), ("wall w ann -,a.0:1 0", 3),
                            ("wall w ann a.0:1 1", 4), ("wall w ann a.0:1 -2", 4), ("wall w ann a.0:1", 4), ("unwall w w", 2), ("unwall -", 1),
                            ("end", 1), ("end R", 1), ("evening\n", 0), ("end r\n", 1)):
            self.assertEqual(self.fault(line), field, line)
            self.assertEqual(plain_field(line), field, line)

    def test_cells_are_ordered_by_the_number_of_the_day(self):
        step = ("wall", "w", ("ann",), ((("a", 9), 1), (("a", 10), 1)), 0)
        self.assertEqual(read_step("wall w ann a.9:1,a.10:1 0"), step)
        self.assertEqual(self.fault("wall w ann a.10:1,a.9:1 0"), 3)

    def test_changed_lines(self):
        source = random.Random(110)
        found = {}
        for step, line in WRITTEN:
            if len(line) > 60:
                continue
            for text in set(changed_lines(line, source)):
                wanted = plain_field(text)
                if wanted is None:
                    self.assertTrue(plain_world_step(read_step(text)), text)
                    self.assertEqual(step_line(read_step(text)), text)
                else:
                    with self.assertRaises(InvalidText) as caught:
                        read_step(text)
                    self.assertEqual((caught.exception.line, caught.exception.field), (0, wanted), text)
                found[wanted] = found.get(wanted, 0) + 1
        self.assertEqual(set(found), {None, 0, 1, 2, 3, 4, 5, 6, 7, 8, 9})

    def test_logs(self):
        steps, lines = zip(*WRITTEN)
        self.assertEqual(both_ways(self, read_log, lines=list(lines)), steps)
        self.assertEqual(both_ways(self, read_log, lines=[]), ())
        self.assertTrue(is_log(read_log(list(lines))))

    def test_the_first_line_that_is_not_valid(self):
        for lines, line, field in (([""], 0, 0), (["evening", ""], 1, 0), (["evening", "end", "enter"], 1, 1),
                                   (["evening", "end r", "enter a x", ""], 2, 2), (["evening"] * 50 + ["evening "], 50, 1)):
            for call in (lambda: read_log(lines), lambda: read_log(lines=lines)):
                with self.assertRaises(InvalidText) as caught:
                    call()
                self.assertEqual((caught.exception.line, caught.exception.field), (line, field))

    def test_whether_a_step_is_barred_is_not_checked(self):
        self.assertEqual(read_log(["end r", "end r", "unwall w"]), (("end", "r"), ("end", "r"), ("unwall", "w")))

    def test_logs_of_worlds(self):
        for seed in range(40):
            log = random_log(seed)
            lines = log_lines(log)
            self.assertEqual(read_log(lines), log)
            self.assertEqual([step_line(read_step(line)) for line in lines], lines)
            world = replayed(read_log(lines))
            self.assertEqual(world, replayed(log))
            self.assertEqual(str(world), " / ".join(lines) or "-")
            self.assertEqual(snapshot(world), snapshot(replayed(log)))


if __name__ == "__main__":
    unittest.main()
