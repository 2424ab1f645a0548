"""[74] to [76]: the desk."""

import random
import unittest

from askrights.desk import Desk
from askrights.errors import (AskError, ArchiveError, InvalidCommand, InvalidStep, NotAnswerable, NothingToUndo, TextError,
                              UnknownName)
from askrights.linereadings import read_step
from askrights.rowlines import step_line
from askrights.worlds import World
from tests.righthelpers import SIXTY
from tests.test_lines import WRITTEN, changed_lines, modulus, names, plain_field, question, whole
from tests.worldhelpers import random_group, random_question, random_trial

QUERIES = {"undo": [], "count": [], "log": [], "new": [], "day": [], "archives": [], "rights": [], "walls": [],
           "kept": [whole("[a-z]{1,8}")], "answer": [question], "knows": [names, question], "stands": [names, question, modulus],
           "cost": [whole("[a-z]{1,8}")], "shares": [whole("[a-z]{1,8}")]}

LINES = ("open main a,b", "grant r ann a:1,b:1 0 3 total 0", "enter a 5")


def is_command(text):
    """Whether the text is one of the commands of [74]."""
    words = text.split(" ")
    if words[0] == "bars":
        return len(words) > 1 and plain_field(text[len("bars "):]) is None
    if words[0] in QUERIES:
        wanted = QUERIES[words[0]]
        return len(words) == len(wanted) + 1 and all(test(word, words) for test, word in zip(wanted, words[1:]))
    return plain_field(text) is None


def listed(texts, sign=","):
    return sign.join(texts) or "-"


def row_word(row):
    return listed([account + "." + str(day) + ":" + str(number) for (account, day), number in row])


def desk_of(*lines):
    desk = Desk()
    for line in lines:
        desk.say(line)
    return desk


class Commands(unittest.TestCase):
    def test_example(self):
        d = Desk()
        one = d.say("open main a,b")
        d.say("grant r ann a:1,b:1 0 1 total 0")
        d.say("enter a 5")
        self.assertEqual([one, d.say("evening"), d.say("kept main"), d.say("knows ann a.0:1"), d.say("shares main")],
                         ["ok", "r=5", "a.0:1,b.0:1=5", "0 1", "r=0/1"])
        with self.assertRaises(InvalidCommand) as caught:
            Desk().say("evening now")
        self.assertEqual(caught.exception.text, "evening now")

    def test_a_new_desk(self):
        answers = {"count": "0", "log": "-", "day": "0", "archives": "-", "rights": "-", "walls": "-", "answer -": "0", "evening": "-",
                   "knows ann -": "0 0", "knows ann a.0:6": "0 6", "stands ann a.0:1 0": "yes", "stands ann - 0": "no",
                   "stands ann a.0:6 3": "no", "stands ann,bob a.0:6 4": "yes", "new": "ok", "bars evening": "-",
                   "bars end r": "name", "open main a": "ok"}
        for command, answer in answers.items():
            self.assertEqual(Desk().say(command), answer, command)
            self.assertEqual(Desk().say(text=command), answer, command)

    def test_each_command(self):
        desk = desk_of(*LINES)
        self.assertEqual(desk.say("bars grant r ann a:1 0 0 total 0"), "name")
        self.assertEqual(desk.say("open side c"), "ok")
        self.assertEqual(desk.say("grant q bob c:-2 0 2 window 2"), "ok")
        self.assertEqual(desk.say("wall w bob a.0:1 0"), "ok")
        self.assertEqual(desk.say("wall v bob,cy a.0:1 2"), "ok")
        self.assertEqual(desk.say("bars grant s bob a:1 0 0 total 0"), "wall")
        self.assertEqual(desk.say("bars grant s ann a:1 0 0 total 0"), "-")
        self.assertEqual(desk.say("bars wall u ann a.0:1,b.0:1 0"), "falls")
        self.assertEqual(desk.say("enter c 4"), "ok")
        self.assertEqual([desk.say(text) for text in ("archives", "rights", "walls", "count", "day")], ["main,side", "q,r", "v,w", "8", "0"])
        self.assertEqual([desk.say(text) for text in ("cost main", "cost side", "kept main", "shares side")], ["1", "1", "-", "q=1/1"])
        self.assertEqual(desk.say("evening"), "q=-8,r=5")
        self.assertEqual([desk.say(text) for text in ("kept main", "kept side")], ["a.0:1,b.0:1=5", "c.0:1=4"])
        self.assertEqual(desk.say("correct b 0 -7"), "ok")
        self.assertEqual([desk.say(text) for text in ("kept main", "answer a.0:2,b.0:2,c.0:1", "answer c.1:1")], ["a.0:1,b.0:1=-2", "0", "0"])
        self.assertEqual([desk.say(text) for text in ("knows ann a.0:1,b.0:1", "knows bob c.0:1", "knows bob a.0:3,c.0:1")],
                         ["-2 0", "4 0", "1 3"])
        self.assertEqual([desk.say(text) for text in ("stands ann a.0:1,b.0:1 0", "stands bob a.0:1 0", "stands ann,bob a.0:2 2")],
                         ["no", "yes", "no"])
        self.assertEqual(desk.say("undo"), "correct b 0 -7")
        self.assertEqual(desk.say("kept main"), "a.0:1,b.0:1=5")
        self.assertEqual(desk.say("log"), "open main a,b / grant r ann a:1,b:1 0 3 total 0 / enter a 5 / open side c / "
                                          "grant q bob c:-2 0 2 window 2 / wall w bob a.0:1 0 / wall v bob,cy a.0:1 2 / enter c 4 / evening")
        self.assertEqual(desk.say("merge main side all"), "ok")
        self.assertEqual([desk.say(text) for text in ("archives", "kept all", "cost all", "shares all")],
                         ["all", "a.0:1,b.0:1=5 / c.0:1=4", "2", "q=1/1,r=1/1"])
        self.assertEqual([desk.say(text) for text in ("split all c x y", "unwall v", "end r", "archives", "walls", "rights")],
                         ["ok", "ok", "ok", "x,y", "w", "q"])
        self.assertEqual([desk.say(text) for text in ("new", "count", "day", "archives", "log")], ["ok", "0", "0", "-", "-"])

    def test_shares(self):
        desk = desk_of("open main a", "grant three ann a:1 0 9 window 3", "grant two bob a:1 0 9 window 2", *["evening"] * 3)
        self.assertEqual(desk.say("shares main"), "three=3/2,two=1/2")

    def test_long_integers(self):
        nines = "9" * 60
        desk = desk_of("open main a", "grant r ann a:1 0 1 total 0", "enter a " + nines, "enter a " + nines)
        self.assertEqual(desk.say("evening"), "r=" + str(2 * SIXTY))
        self.assertEqual(desk.say("kept main"), "a.0:1=" + str(2 * SIXTY))
        self.assertEqual(desk.say("knows ann a.0:-" + nines), str(-2 * SIXTY * SIXTY) + " 0")
        self.assertEqual(desk.say("stands bob a.0:" + nines + " " + nines), "no")
        for text in ("enter a 1" + nines, "answer a.0:1" + nines, "stands bob a.0:1 1" + nines, "bars enter a -1" + nines):
            with self.assertRaises(InvalidCommand):
                desk.say(text)


class Errors(unittest.TestCase):
    def invalid(self, text, desk=None):
        desk = desk or Desk()
        for call in (lambda: desk.say(text), lambda: desk.say(text=text)):
            with self.assertRaises(InvalidCommand) as caught:
                call()
            self.assertIs(caught.exception.text, text)
            self.assertIsInstance(caught.exception, TextError)
            self.assertIsInstance(caught.exception, AskError)

    def test_no_commands(self):
        texts = ["", " ", "  ", "-", "ok", "evening now", "Evening", "help", "bars", "bars ", "bars bars evening", "bars count", "bars  evening",
                 "bars evening ", "bars evening now", "bars undo", "kept", "kept ", "kept Main", "kept main x", "kept a,b", "answer", "answer a",
                 "answer a.0", "answer a.0:0", "answer a.0:1 b.0:1", "answer b.0:1,a.0:1", "knows ann", "knows ann a.0:1 0", "knows - a.0:1",
                 "knows bob,ann a.0:1", "stands ann a.0:1", "stands ann a.0:1 1", "stands ann a.0:1 -2", "stands ann a.0:1 0 0", "stands a.0:1 ann 0",
                 "cost", "cost main side", "cost -", "shares", "shares 1", "wall w ann a.0:1 1", "walls w", "wall", "archive", "archives main", "right",
                 "new world", "news", "undo 1", "undo undo", "count log", "counts", "log / log", "day 0", "days", "open main", "open main a\n",
                 "evening\n", "\nevening", "count\n", "new\n", "evening\nevening", "enter a 5 / evening", "grant r ann a:1 1 0 total 0", "answer\n-"]
        for text in texts + [" " + one for one in QUERIES] + [one + " " for one in QUERIES]:
            self.assertFalse(is_command(text), text)
            self.invalid(text)
            self.invalid(text, desk_of(*LINES))

    def test_changed_commands(self):
        source = random.Random(120)
        found = {}
        commands = ["undo", "count", "new", "archives", "bars enter a 5", "bars wall w ann a.0:1 2", "kept main", "answer a.0:1,b.0:-2", "knows ann,bob a.0:1",
                    "stands ann a.0:2,b.0:1 3", "cost main", "shares main"] + [line for step, line in WRITTEN if len(line) < 20]
        for command in commands:
            for text in sorted(set(changed_lines(command, source))):
                valid = is_command(text)
                try:
                    self.assertIsInstance(desk_of(*LINES).say(text), str)
                    self.assertTrue(valid, text)
                except InvalidCommand:
                    self.assertFalse(valid, text)
                except ArchiveError:
                    self.assertTrue(valid, text)
                found[valid] = found.get(valid, 0) + 1
        self.assertGreater(found[True], 100)

    def test_errors_of_the_world(self):
        desk = desk_of(*LINES)
        for text, step, reason in (("open main c", ("open", "main", ("c",)), "archive"), ("enter x 1", ("enter", "x", 1), "account"),
                                   ("correct a 0 1", ("correct", "a", 0, 1), "day"), ("end x", ("end", "x"), "name"),
                                   ("split main - x y", ("split", "main", (), "x", "y"), "side"),
                                   ("wall w ann a.0:1,b.0:1 0", ("wall", "w", ("ann",), ((("a", 0), 1), (("b", 0), 1)), 0), "falls")):
            with self.assertRaises(InvalidStep) as caught:
                desk.say(text)
            self.assertEqual((caught.exception.step, caught.exception.reason), (step, reason))
            self.assertEqual(desk.say("bars " + text), reason)
        for text in ("kept x", "cost x", "shares x"):
            with self.assertRaises(UnknownName) as caught:
                desk.say(text)
            self.assertEqual(caught.exception.name, "x")
        with self.assertRaises(NotAnswerable) as caught:
            desk.say("answer x.0:1")
        self.assertEqual(caught.exception.row, ((("x", 0), 1),))
        with self.assertRaises(NothingToUndo) as caught:
            Desk().say("undo")
        self.assertEqual(caught.exception.steps, 0)
        self.assertEqual(desk.say("log"), " / ".join(LINES))


class Counts(unittest.TestCase):
    def test_counts(self):
        desk = Desk()
        self.assertEqual(desk.counts(), (0, 0))
        for many, text in enumerate(("day", "open main a", "new", "count", "bars evening", "evening"), 1):
            desk.say(text)
            self.assertEqual(desk.counts(), (many, many))
        for many, (text, error) in enumerate((("", InvalidCommand), ("evening now", InvalidCommand), ("end r", InvalidStep), ("kept x", UnknownName),
                                              ("answer a.0:1", NotAnswerable)), 7):
            self.assertRaises(error, desk.say, text)
            self.assertEqual(desk.counts(), (many, many))
        self.assertEqual((desk.say("undo"), desk.counts()), ("evening", (12, 12)))
        self.assertRaises(NothingToUndo, desk.say, "undo")
        self.assertEqual((desk.say("new"), desk.counts()), ("ok", (14, 14)))
        self.assertIs(type(desk.counts()), tuple)

    def test_desks_are_apart(self):
        one, other = Desk(), Desk()
        one.say("evening")
        self.assertEqual((one.say("day"), other.say("day"), one.counts(), other.counts()), ("1", "0", (2, 2), (1, 1)))


class ComparedDesks(unittest.TestCase):
    """Random lines and queries, compared with a world that forgets nothing."""

    def wanted(self, text, plain, world):
        """The answer to a query."""
        word, *rest = text.split(" ")
        if word == "kept":
            return listed([row_word(row) + "=" + str(value) for row, value in plain.archive(rest[0])[3]], " / ")
        if word == "cost":
            return str(world.cost_now(rest[0]))
        if word == "shares":
            return listed([name + "=" + str(above) + "/" + str(below) for name, (above, below) in world.shares_now(rest[0])])
        return {"day": str(plain.day), "count": str(len(plain.steps)), "log": listed([step_line(step) for step in plain.steps], " / "),
                "archives": listed(sorted(plain.stores)), "walls": listed(sorted(plain.walls)),
                "rights": listed([name for name, right in plain.rights()])}[word]

    def check(self, desk, world, plain, source):
        for text in ["day", "count", "log", "archives", "walls", "rights"] + [word + name for word in ("kept ", "cost ", "shares ")
                                                                                for name in plain.stores]:
            self.assertEqual(desk.say(text), self.wanted(text, plain, world))
        group, asked, m = random_group(source), random_question(source, plain.day), source.choice((0, 2, 3))
        written = ",".join(group) + " " + row_word(asked)
        self.assertEqual(desk.say("knows " + written), " ".join(map(str, world.knows_now(group, asked))))
        self.assertEqual(desk.say("stands " + written + " " + str(m)), "yes" if plain.stands((group, asked, m)) else "no")
        if plain.answer(asked) is None:
            self.assertRaises(NotAnswerable, desk.say, "answer " + row_word(asked))
        else:
            self.assertEqual(desk.say("answer " + row_word(asked)), str(plain.value(asked)))

    def test_random_sessions(self):
        for seed in range(40):
            desk, world, source = Desk(), World(), random.Random(seed)
            for step, plain in random_trial(seed):
                line, word = step_line(step), plain.bar(step)
                self.assertEqual(desk.say("bars " + line), word or "-")
                if word is None:
                    shown = plain.do(step)
                    world.go(step)
                    answer = "ok" if shown is None else listed([one[0] + "=" + str(one[3]) for one in shown])
                    self.assertEqual(desk.say(line), answer)
                else:
                    with self.assertRaises(InvalidStep) as caught:
                        desk.say(line)
                    self.assertEqual((caught.exception.step, caught.exception.reason), (step, word))
                if source.random() < 0.3:
                    self.check(desk, world, plain, source)
            # The lines of the log, at a new desk, lead to the same answers.
            again = desk_of(*[line for line in desk.say("log").split(" / ") if line != "-"])
            for text in ("day", "archives", "rights", "walls", "log", "count"):
                self.assertEqual(again.say(text), desk.say(text))
            for at in range(len(plain.steps) - 1, -1, -1):
                self.assertEqual(read_step(desk.say("undo")), plain.steps[at])
            self.assertEqual((desk.say("log"), desk.say("day")), ("-", "0"))


if __name__ == "__main__":
    unittest.main()
