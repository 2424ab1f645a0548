"""World steps as lines."""

from askrights.integertexts import integer_text
from askrights.rowtexts import row_text


def item_text(item):
    """Return the word of a name, an integer, a tuple of names or a row."""
    if isinstance(item, str):
        return item
    if isinstance(item, int):
        return integer_text(item)
    if item != () and isinstance(item[0], str):
        return ",".join(item)
    return row_text(item)


def right_words(right):
    """Return the list of the words of a right."""
    person, weights, first, last, kind = right
    pairs = [account + ":" + integer_text(weight) for account, weight in weights]
    return [person, ",".join(pairs)] + [item_text(item) for item in (first, last, *kind)]


def step_line(step):
    """Return the line of a world step."""
    if step[0] == "grant":
        return " ".join([step[0], step[1]] + right_words(step[2]))
    return " ".join([item_text(item) for item in step])


def log_lines(log):
    """Return the list of the lines of a log."""
    return [step_line(step) for step in log]
