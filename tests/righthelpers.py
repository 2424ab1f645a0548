"""What the tests of rights and archives share: samples, changed values, and plain computations to compare with."""

import random

from askrights.histories import archives_of
from tests.helpers import SUM, plain_rank

SIXTY = 10 ** 60 - 1
WINDOW = ("ann", (("a", 1),), 1, 3, ("window", 2))
TOTAL = ("bob", (("a", 1), ("b", -1)), 2, 2, ("total", 0))
PERIOD = ("cy", (("a", 2), ("b", 1), ("c", -3)), 0, 9, ("period", 2, 4))
RIGHTS = (("r", WINDOW), ("s", TOTAL))
ACCOUNTS = ("a", "b", "c")
PERSONS = ("ann", "bob", "cy", "dee")
NAMES = ("p", "q", "r", "s", "t", "u", "v", "w")

# An archive that has forgotten the cells of day 0 except for their sum, 7.
ARCHIVE = (("a", "b"), 1, (("sum", ("ann", (("a", 1), ("b", 1)), 0, 2, ("total", 0))),), ((SUM, 7),),
           (("a", 2), ("b", -1)))

OTHER_VALUES = (None, True, False, 0, 1, -1, 2, SIXTY, -SIXTY, "", "a", "zz", "abcdefghi", "A", (), [], (0,), [0],
                (0, 1), ("a", 1), ((("a", 0), 1),))


def right_of(kind, first=0, last=9, weights=(("a", 1),), person="ann"):
    """A right of this kind."""
    return (person, weights, first, last, kind)


def mutants(thing, others=OTHER_VALUES):
    """Values that differ from the value in one element at one depth."""
    for other in others:
        if repr(other) != repr(thing):
            yield other
    if isinstance(thing, int) and not isinstance(thing, bool):
        yield from (thing + 1, thing - 1, -thing, bool(thing))
    if isinstance(thing, str):
        yield from (thing + "z", thing[1:], thing.upper(), [thing], (thing,))
    if isinstance(thing, tuple):
        yield list(thing)
        yield from (thing[:-1], thing[1:], thing + thing[-1:], thing[:1] + thing, thing + (None,), thing[::-1])
        for at, item in enumerate(thing):
            yield thing[:at] + thing[at + 1:]
            yield thing[:at] + (item, item) + thing[at + 1:]
            for other in mutants(item, others):
                yield thing[:at] + (other,) + thing[at + 1:]


def plain_days(right, day):
    """The days of the question, each asked by itself."""
    person, weights, first, last, kind = right
    begin, end = {"total": lambda: (kind[1], day), "window": lambda: (day - kind[1] + 1, day),
                  "period": lambda: (kind[1], min(kind[2], day))}[kind[0]]()
    return [one for one in range(day + 1) if begin <= one <= end]


def plain_question(right, day, last_day=None):
    """The part up to last_day of the question on a day of use."""
    days = [one for one in plain_days(right, day) if last_day is None or one <= last_day]
    return tuple(sorted(((account, one), number) for account, number in right[1] for one in days))


def plain_future(rights, day):
    """The future rows, one day of use after the other."""
    rows = {plain_question(right, later, day) for name, right in rights for later in range(right[2], right[3] + 1)
            if later > day}
    return tuple(sorted(rows - {()}))


def plain_needed(rights, day):
    questions = {plain_question(right, day) for name, right in rights if right[2] <= day <= right[3]}
    return tuple(sorted((questions | set(plain_future(rights, day))) - {()}))


def plain_span(rows, row):
    """Whether the row is in the span, by the rank alone."""
    return plain_rank(tuple(rows) + (row,)) == plain_rank(tuple(rows))


def random_weights(source, accounts=ACCOUNTS, size=3):
    chosen = sorted(source.sample(accounts, source.randint(1, len(accounts))))
    return tuple((account, source.choice([k for k in range(-size, size + 1) if k != 0])) for account in chosen)


def random_right(source, accounts=ACCOUNTS, first=0, last=9):
    """A right with days of use from first to last; kinds that have not begun or are over are among them."""
    one, other = sorted((source.randint(first, last), source.randint(first, last)))
    begin, end = sorted((source.randint(0, last), source.randint(0, last)))
    kind = source.choice((("total", source.randint(0, last)), ("total", 0), ("window", source.randint(1, 4)),
                          ("window", source.randint(1, 12)), ("period", begin, end)))
    return (source.choice(PERSONS), random_weights(source, accounts), one, other, kind)


def random_rights(source, most=6, names=NAMES, **more):
    chosen = sorted(source.sample(names, source.randint(0, most)))
    return tuple((name, random_right(source, **more)) for name in chosen)


class PlainArchive:
    """An archive that forgets nothing, and that is asked as if it had."""

    def __init__(self, accounts):
        self.accounts = accounts
        self.today = 0
        self.rights = {}
        self.data = {}
        self.past = ()
        self.shown = []

    def rows(self):
        return self.past + tuple((((account, self.today), 1),) for account in self.accounts)

    def serves(self, right):
        rows = self.rows()
        return all(plain_span(rows, row) for row in plain_needed((("x", right),), self.today))

    def halves(self, right, accounts):
        return [right[:1] + (tuple(pair for pair in right[1] if (pair[0] in accounts) == side),) + right[2:]
                for side in (True, False)]

    def bar(self, step):
        """The word that bars the step, by the words of [28]."""
        word, rest = step[0], step[1:]
        faults = []
        if word in ("enter", "correct"):
            faults.append(("account", rest[0] not in self.accounts))
        if word == "correct":
            faults.append(("day", rest[1] >= self.today))
        if word == "grant":
            faults.append(("name", rest[0] in self.rights))
            faults.append(("account", not {account for account, number in rest[1][1]} <= set(self.accounts)))
            faults.append(("over", rest[1][3] < self.today))
            if not any(fault for name, fault in faults):
                faults.append(("lost", not self.serves(rest[1])))
        if word in ("end", "halve"):
            faults.append(("name", rest[0] not in self.rights))
        if word == "halve" and rest[0] in self.rights:
            halves = self.halves(self.rights[rest[0]], rest[1])
            faults.append(("account", not set(rest[1]) <= set(self.accounts)))
            faults.append(("side", () in (halves[0][1], halves[1][1])))
            faults.append(("fresh", rest[2] == rest[3] or rest[2] in self.rights or rest[3] in self.rights))
            if not any(fault for name, fault in faults):
                faults.append(("lost", not all(self.serves(half) for half in halves)))
        return ([name for name, fault in faults if fault] + [None])[0]

    def named(self):
        return tuple(sorted(self.rights.items()))

    def do(self, step):
        word, rest = step[0], step[1:]
        if word == "enter":
            self.data[rest[0], self.today] = self.data.get((rest[0], self.today), 0) + rest[1]
        elif word == "correct":
            self.data[rest[0], rest[1]] = self.data.get((rest[0], rest[1]), 0) + rest[2]
        elif word == "grant":
            self.rights[rest[0]] = rest[1]
        elif word == "end":
            del self.rights[rest[0]]
        elif word == "halve":
            self.rights[rest[2]], self.rights[rest[3]] = self.halves(self.rights.pop(rest[0]), rest[1])
        else:
            self.evening()

    def evening(self):
        for name, right in self.named():
            if right[2] <= self.today <= right[3]:
                question = plain_question(right, self.today)
                self.shown.append((self.today, name, right[0], question, self.value(question)))
        self.rights = {name: right for name, right in self.rights.items() if right[3] > self.today}
        self.past = plain_future(self.named(), self.today)
        self.today += 1

    def value(self, row):
        return sum(number * self.data.get(cell, 0) for cell, number in row)

    def complete(self):
        return tuple((cell, self.data[cell]) for cell in sorted(self.data) if self.data[cell] != 0)

    def current(self):
        return tuple((account, self.data.get((account, self.today), 0)) for account in self.accounts)


def random_step(source, plain):
    """A step that is often possible; sometimes it has an account or a name that is none."""
    accounts = plain.accounts if source.random() < 0.9 else plain.accounts + ("x",)
    word = source.choice(("enter", "enter", "enter", "correct", "grant", "grant", "end", "halve", "halve", "evening",
                          "evening"))
    held = sorted(plain.rights) if source.random() < 0.9 and plain.rights else NAMES
    if word == "enter":
        return ("enter", source.choice(accounts), source.randint(-10, 10) * 10 ** source.randint(0, 5))
    if word == "correct":
        day = source.randint(0, plain.today if source.random() < 0.2 else max(0, plain.today - 1))
        return ("correct", source.choice(accounts), day, source.randint(-10, 10))
    if word == "grant":
        first = plain.today if source.random() < 0.8 else 0
        return ("grant", source.choice(NAMES), random_right(source, accounts, min(first, 9), 9 + first // 10))
    if word == "end":
        return ("end", source.choice(held))
    if word == "halve":
        some = tuple(sorted(source.sample(accounts, source.randint(1, max(1, len(accounts) - 1)))))
        fresh = [name for name in NAMES if name not in plain.rights or source.random() < 0.05]
        return ("halve", source.choice(held), some, source.choice(fresh), source.choice(fresh))
    return ("evening",)


def random_history(seed, many=40, last_today=10, most_rights=6):
    """(accounts, steps, words): steps that were tried, and the word that bars each, or None."""
    source = random.Random(seed)
    plain = PlainArchive(tuple(sorted(source.sample(ACCOUNTS, source.randint(1, 3)))))
    tried = []
    for k in range(many):
        step = random_step(source, plain)
        if step == ("evening",) and plain.today == last_today:
            continue
        if step[0] in ("grant", "halve") and len(plain.rights) >= most_rights:
            continue
        word = plain.bar(step)
        tried.append((step, word))
        if word is None:
            plain.do(step)
    return plain.accounts, tried


def sample_archives(seeds, each=3):
    """Archives of random histories, with a source of further choices."""
    for seed in seeds:
        source = random.Random(seed)
        accounts, tried = random_history(seed)
        archives = archives_of((accounts, tuple(step for step, word in tried if word is None)))
        for archive in source.sample(archives, min(each, len(archives))):
            yield archive, source


def renamed(archive, accounts, names):
    """The archive with other names of accounts and rights."""
    account_of, name_of = dict(accounts), dict(names)

    def weights(pairs):
        return tuple(sorted((account_of[account], number) for account, number in pairs))

    def row(pairs):
        return tuple(sorted(((account_of[account], day), number) for (account, day), number in pairs))

    rights = tuple(sorted((name_of[name], right[:1] + (weights(right[1]),) + right[2:]) for name, right in archive[2]))
    kept = tuple((row(one), value) for one, value in archive[3])
    return (tuple(sorted(account_of[account] for account in archive[0])), archive[1], rights, kept, weights(archive[4]))
