"""Reading world steps from lines."""

from askrights.errors import InvalidText
from askrights.wordreadings import line_form, words_read


def step_of(word, values):
    """Return the world step of the first word of a line and the values of the others."""
    if word != "grant":
        return (word, *values)
    name, person, weights, first, last, *kind = values
    return ("grant", name, (person, weights, first, last, tuple(kind)))


def step_on_line(text, line):
    """Return the world step that the line with this index writes; raise InvalidText."""
    words = text.split(" ")
    readers = line_form(words)
    if readers is None:
        raise InvalidText(line, 0)
    values, fault = words_read(readers, words[1:])
    if fault is not None:
        raise InvalidText(line, fault + 1)
    return step_of(words[0], values)


def read_step(text):
    """Return the world step that the text writes; raise InvalidText."""
    return step_on_line(text, 0)


def read_log(lines):
    """Return the log that the lines write; raise InvalidText for the first line that is not valid."""
    return tuple([step_on_line(text, line) for line, text in enumerate(lines)])
