"""The desk: a world that is asked and changed by commands."""

from askrights.errors import InvalidCommand, InvalidText
from askrights.integertexts import integer_text
from askrights.linereadings import read_step
from askrights.rowlines import step_line
from askrights.rowtexts import row_text
from askrights.wordreadings import query_form, words_read
from askrights.worlds import World


def joined(texts, separator):
    """Return the texts with the separator between them, - if there are none."""
    return "-" if len(texts) == 0 else separator.join(texts)


def shown_text(shown):
    """Return the answers that an evening showed."""
    return joined([name + "=" + integer_text(value) for name, person, question, value in shown], ",")


def tell_undo(world, values):
    """Undo the last step, and return its line."""
    return step_line(world.undo())


def tell_count(world, values):
    """Return the number of steps."""
    return integer_text(len(world))


def tell_log(world, values):
    """Return the lines of the log."""
    return str(world)


def tell_day(world, values):
    """Return the day."""
    return integer_text(world.day_now())


def tell_archives(world, values):
    """Return the names of the archives."""
    return joined(world.archive_names(), ",")


def tell_rights(world, values):
    """Return the names of the rights."""
    return joined(world.right_names(), ",")


def tell_walls(world, values):
    """Return the names of the walls."""
    return joined([name for name, wall in world.walls_now()], ",")


def tell_kept(world, values):
    """Return the kept rows of an archive with their values."""
    kept = world.archive_named(values[0])[3]
    return joined([row_text(row) + "=" + integer_text(value) for row, value in kept], " / ")


def tell_answer(world, values):
    """Return the answer of a question."""
    return integer_text(world.answer_now(values[0]))


def tell_knows(world, values):
    """Return what a group knows about a question."""
    return " ".join([integer_text(number) for number in world.knows_now(values[0], values[1])])


def tell_stands(world, values):
    """Return whether a wall would stand."""
    return "yes" if world.stands_now(values[0], values[1], values[2]) else "no"


def tell_cost(world, values):
    """Return the cost of an archive."""
    return integer_text(world.cost_now(values[0]))


def tell_shares(world, values):
    """Return the fair shares of an archive's rights."""
    shares = world.shares_now(values[0])
    texts = [name + "=" + integer_text(above) + "/" + integer_text(below) for name, (above, below) in shares]
    return joined(texts, ",")


ANSWERS = {
    "undo": tell_undo,
    "count": tell_count,
    "log": tell_log,
    "day": tell_day,
    "archives": tell_archives,
    "rights": tell_rights,
    "walls": tell_walls,
    "kept": tell_kept,
    "answer": tell_answer,
    "knows": tell_knows,
    "stands": tell_stands,
    "cost": tell_cost,
    "shares": tell_shares,
}


class Desk:
    """A desk with a world."""

    def __init__(self):
        self.world = World()
        self.started = 0
        self.finished = 0

    def tell_query(self, text, words, readers):
        """Return the answer to a command that begins with the word of a query."""
        values, fault = words_read(readers, words[1:])
        if fault is not None:
            raise InvalidCommand(text)
        if words[0] == "new":
            self.world = World()
            return "ok"
        action = ANSWERS[words[0]]
        return action(self.world, values)

    def tell_line(self, text, line):
        """Return the step that the line of the command writes."""
        try:
            return read_step(line)
        except InvalidText:
            raise InvalidCommand(text) from None

    def tell(self, text):
        """Return the answer to the command."""
        words = text.split(" ")
        readers = query_form(words)
        if readers is not None:
            return self.tell_query(text, words, readers)
        if words[0] == "bars":
            reason = self.world.bars_now(self.tell_line(text, " ".join(words[1:])))
            return "-" if reason is None else reason
        shown = self.world.go(self.tell_line(text, text))
        return "ok" if shown is None else shown_text(shown)

    def say(self, text):
        """Return the answer to the command; raise InvalidCommand and the errors of the world."""
        self.started += 1
        try:
            return self.tell(text)
        finally:
            self.finished += 1

    def counts(self):
        """Return the pair of the numbers of started and of finished commands."""
        return (self.started, self.finished)
