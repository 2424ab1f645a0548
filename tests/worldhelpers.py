"""What the tests of worlds, lines and the desk share: a world that forgets nothing, and random world steps."""

import random

from askrights.bases import basis_of
from askrights.walls import stands
from tests.helpers import random_row
from tests.righthelpers import PERSONS, plain_future, plain_needed, plain_question, plain_span, random_right

ACCOUNTS = ("a", "b", "c")
NAMES = ("p", "q", "r", "s", "t", "u", "v")
ARCHIVES = ("main", "one", "two", "x")
WALLS = ("low", "mid", "top", "wide")

METHODS = {"open": "open_archive", "enter": "enter_amount", "correct": "correct_cell", "evening": "evening",
           "grant": "grant_right", "end": "end_right", "halve": "halve_right", "merge": "merge_archives",
           "split": "split_into", "wall": "wall_off", "unwall": "take_down"}


def plain_halves(right, accounts):
    return [right[:1] + (tuple(pair for pair in right[1] if (pair[0] in accounts) == side),) + right[2:]
            for side in (True, False)]


class PlainStore:
    """One archive: its accounts, its rights, and the rows whose values it has kept."""

    def __init__(self, accounts, rights=(), past=()):
        self.accounts, self.rights, self.past = tuple(sorted(accounts)), dict(rights), tuple(past)

    def rows(self, day):
        return self.past + tuple((((account, day), 1),) for account in self.accounts)

    def serves(self, right, day):
        return all(plain_span(self.rows(day), row) for row in plain_needed((("x", right),), day))

    def named(self):
        return tuple(sorted(self.rights.items()))


class PlainWorld:
    """A world that forgets nothing, and that is asked as if it had."""

    def __init__(self):
        self.day, self.stores, self.walls, self.data, self.shown, self.steps = 0, {}, {}, {}, [], []

    def home(self, accounts):
        return ([store for store in self.stores.values() if set(accounts) <= set(store.accounts)] + [None])[0]

    def holder(self, name):
        return ([store for store in self.stores.values() if name in store.rights] + [None])[0]

    def rights(self):
        return tuple(sorted(pair for store in self.stores.values() for pair in store.rights.items()))

    def value(self, row):
        return sum(number * self.data.get(cell, 0) for cell, number in row)

    def complete(self):
        return tuple((cell, self.data[cell]) for cell in sorted(self.data) if self.data[cell] != 0)

    def known(self, group):
        return tuple(sorted({one[3] for one in self.shown if one[2] in group} - {()}))

    def stands(self, wall, ended=(), added=()):
        """Whether the wall stands if some rights end and others are added."""
        rights = [pair for pair in self.rights() if pair[0] not in ended] + list(added)
        rows = [plain_question(right, day) for name, right in rights if right[0] in wall[0]
                for day in range(max(right[2], self.day), right[3] + 1)]
        return stands(self.known(wall[0]) + tuple(sorted(set(rows))), wall[1], wall[2])

    def fallen(self, ended, added):
        """The first wall that would fall."""
        return ([name for name in sorted(self.walls) if not self.stands(self.walls[name], ended, added)] + [None])[0]

    def answer(self, question):
        """The answer, or None if the world cannot answer it."""
        if not {account for (account, day), number in question} <= {one for s in self.stores.values() for one in s.accounts}:
            return None
        for store in self.stores.values():
            part = tuple(pair for pair in question if pair[0][0] in store.accounts)
            if not plain_span(store.rows(self.day), part):
                return None
        return self.value(question)

    def bar(self, step):
        """The word that bars a world step, by the words of [64]."""
        faults = getattr(self, "bar_" + step[0])(*step[1:])
        return next((word for word, fault in faults if fault()), None)

    def bar_open(self, archive, accounts):
        return [("archive", lambda: archive in self.stores),
                ("account", lambda: any(self.home([account]) for account in accounts))]

    def bar_enter(self, account, amount):
        return [("account", lambda: self.home([account]) is None)]

    def bar_correct(self, account, day, difference):
        return [("account", lambda: self.home([account]) is None), ("day", lambda: day >= self.day)]

    def bar_evening(self):
        return []

    def bar_grant(self, name, right):
        home = self.home([account for account, number in right[1]])
        return [("name", lambda: self.holder(name)), ("account", lambda: home is None),
                ("over", lambda: right[3] < self.day), ("lost", lambda: not home.serves(right, self.day)),
                ("wall", lambda: self.fallen((), [(name, right)]))]

    def bar_end(self, name):
        return [("name", lambda: self.holder(name) is None)]

    def bar_halve(self, name, accounts, left, right):
        store = self.holder(name)
        halves = plain_halves(store.rights[name], accounts) if store else None
        return [("name", lambda: store is None), ("account", lambda: not set(accounts) <= set(store.accounts)),
                ("side", lambda: () in (halves[0][1], halves[1][1])),
                ("fresh", lambda: left == right or self.holder(left) or self.holder(right)),
                ("lost", lambda: not all(store.serves(half, self.day) for half in halves)),
                ("wall", lambda: self.fallen([name], list(zip((left, right), halves))))]

    def bar_merge(self, one, other, fresh):
        return [("archive", lambda: one not in self.stores or other not in self.stores or one == other),
                ("fresh", lambda: fresh in set(self.stores) - {one, other})]

    def bar_split(self, archive, accounts, left, right):
        store = self.stores.get(archive)

        def divided(names):
            return len({name in accounts for name in names}) == 2
        return [("archive", lambda: store is None), ("account", lambda: not set(accounts) <= set(store.accounts)),
                ("side", lambda: len(accounts) in (0, len(store.accounts))),
                ("right", lambda: any(divided([one for one, k in right[1]]) for right in store.rights.values())),
                ("kept", lambda: any(divided([one for (one, day), k in row]) for row in store.past)),
                ("fresh", lambda: left == right or {left, right} & (set(self.stores) - {archive}))]

    def bar_wall(self, name, group, question, m):
        return [("name", lambda: name in self.walls), ("falls", lambda: not self.stands((group, question, m)))]

    def bar_unwall(self, name):
        return [("name", lambda: name not in self.walls)]

    def do(self, step):
        """Do a step that is not barred; the answers of an evening, otherwise None."""
        self.steps.append(step)
        return getattr(self, "do_" + step[0])(*step[1:])

    def do_open(self, archive, accounts):
        self.stores[archive] = PlainStore(accounts)

    def do_enter(self, account, amount):
        self.data[account, self.day] = self.data.get((account, self.day), 0) + amount

    def do_correct(self, account, day, difference):
        self.data[account, day] = self.data.get((account, day), 0) + difference

    def do_evening(self):
        shown = tuple((name, right[0], plain_question(right, self.day), self.value(plain_question(right, self.day)))
                      for name, right in self.rights() if right[2] <= self.day <= right[3])
        self.shown += [(self.day,) + one for one in shown]
        for store in self.stores.values():
            store.rights = {name: right for name, right in store.rights.items() if right[3] > self.day}
            store.past = basis_of(plain_future(store.named(), self.day))
        self.day += 1
        return shown

    def do_grant(self, name, right):
        self.home([account for account, number in right[1]]).rights[name] = right

    def do_end(self, name):
        del self.holder(name).rights[name]

    def do_halve(self, name, accounts, left, right):
        rights = self.holder(name).rights
        rights[left], rights[right] = plain_halves(rights.pop(name), accounts)

    def do_merge(self, one, other, fresh):
        parts = self.stores.pop(one), self.stores.pop(other)
        self.stores[fresh] = PlainStore(parts[0].accounts + parts[1].accounts, {**parts[0].rights, **parts[1].rights},
                                        sorted(parts[0].past + parts[1].past))

    def do_split(self, archive, accounts, left, right):
        store = self.stores.pop(archive)
        for name, side in ((left, True), (right, False)):
            self.stores[name] = PlainStore(
                [one for one in store.accounts if (one in accounts) == side],
                {key: one for key, one in store.rights.items() if (one[1][0][0] in accounts) == side},
                [row for row in store.past if (row[0][0][0] in accounts) == side])

    def do_wall(self, name, group, question, m):
        self.walls[name] = (group, question, m)

    def do_unwall(self, name):
        del self.walls[name]

    def archive(self, name):
        """What the archive with this name must be."""
        store = self.stores[name]
        return (store.accounts, self.day, store.named(), tuple((row, self.value(row)) for row in store.past),
                tuple((account, self.data.get((account, self.day), 0)) for account in store.accounts))


def some_of(source, items, least=1):
    return tuple(sorted(source.sample(items, source.randint(min(least, len(items)), len(items)))))


def random_group(source):
    return tuple(sorted(source.sample(PERSONS[:3], source.choice((1, 2, 3, 3)))))


def random_question(source, day):
    """A question about one cell or a few cells of these days."""
    cells = [(account, one) for account in ACCOUNTS for one in range(max(0, day - 2), day + 2)]
    if source.random() < 0.6:
        return ((source.choice(cells), source.choice((1, 1, -1, 2))),)
    return random_row(source, cells, 2, 0.3)


def random_world_step(source, plain):
    """A world step that can often be done."""
    word = source.choice(("open", "enter", "enter", "enter", "correct", "correct", "evening", "evening", "grant", "grant",
                          "grant", "grant", "end", "halve", "halve", "merge", "merge", "split", "split", "wall", "wall"))
    if word == "wall" and source.random() < 0.2:
        word = "unwall"
    if not plain.stores or (word in ("open", "merge") and len(plain.stores) == 1 and source.random() < 0.5):
        word = "open"
    held = [name for name, right in plain.rights()] if plain.rights() and source.random() < 0.9 else NAMES
    archives = sorted(plain.stores) if plain.stores and source.random() < 0.9 else ARCHIVES
    accounts = ACCOUNTS if source.random() < 0.95 else ACCOUNTS + ("x",)
    if word == "evening":
        return ("evening",)
    if word == "open":
        free = [one for one in ACCOUNTS if plain.home([one]) is None and source.random() < 0.7]
        return ("open", source.choice(ARCHIVES), tuple(free) or some_of(source, accounts))
    if word == "enter":
        return ("enter", source.choice(accounts), source.randint(-10, 10) * 10 ** source.randint(0, 5))
    if word == "correct":
        day = source.randint(0, plain.day if source.random() < 0.2 else max(0, plain.day - 1))
        return ("correct", source.choice(accounts), day, source.randint(-10, 10))
    if word == "grant":
        first = plain.day if source.random() < 0.85 else 0
        home = source.choice(list(plain.stores.values())).accounts if source.random() < 0.9 else accounts
        right = random_right(source, home, min(first, 9), 9 + first // 10)
        if source.random() < 0.3:
            right = right[:1] + (right[1][:source.choice((1, 2))],) + right[2:4] + (("window", source.choice((1, 2))),)
        return ("grant", source.choice(NAMES), (source.choice(PERSONS[:3]),) + right[1:])
    if word in ("end", "unwall"):
        walls = sorted(plain.walls) if plain.walls and source.random() < 0.8 else WALLS
        return (word, source.choice(held if word == "end" else walls))
    if word == "halve":
        name = source.choice(held)
        store = plain.holder(name)
        side = [one for one, number in store.rights[name][1]] if store and source.random() < 0.8 else accounts
        fresh = [one for one in NAMES if plain.holder(one) is None or source.random() < 0.1]
        return ("halve", name, some_of(source, side)[:max(1, len(side) - 1)], source.choice(fresh or NAMES),
                source.choice(fresh or NAMES))
    if word == "merge":
        return ("merge", source.choice(archives), source.choice(archives), source.choice(ARCHIVES))
    if word == "split":
        name = source.choice(archives)
        side = plain.stores[name].accounts if name in plain.stores and source.random() < 0.9 else accounts
        return ("split", name, some_of(source, side, 0)[:max(1, len(side) - 1)], source.choice(ARCHIVES), source.choice(ARCHIVES))
    return ("wall", source.choice(WALLS), random_group(source), random_question(source, plain.day), source.choice((0, 0, 2, 3)))


def random_trial(seed, many=40, last_day=10, most_rights=6, most_walls=3):
    """Pairs (step, word) of world steps that are tried one after the other, and the world that forgets nothing."""
    source = random.Random(seed)
    plain = PlainWorld()
    for k in range(many):
        step = random_world_step(source, plain)
        if step == ("evening",) and plain.day == last_day:
            continue
        if step[0] in ("grant", "halve") and len(plain.rights()) >= most_rights:
            continue
        if step[0] == "wall" and len(plain.walls) >= most_walls:
            continue
        yield step, plain


def random_log(seed, **more):
    """The steps of a random trial that can be done."""
    plain = None
    for step, plain in random_trial(seed, **more):
        if plain.bar(step) is None:
            plain.do(step)
    return tuple(plain.steps)
