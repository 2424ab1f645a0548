"""The checker of answer papers. It computes sums only."""

from askrights.errors import InvalidPaper
from askrights.fractionsums import gives_row
from askrights.kinds import are_fractions, is_pair, is_row
from askrights.rowsums import effect_of, first_noticing


def has_answer_shape(thing):
    """Return whether the value has the shape of an answer paper."""
    if not is_pair(thing):
        return False
    return (thing[0] == "answer" and are_fractions(thing[1])) or (thing[0] == "lost" and is_row(thing[1]))


def check_answer(rows, question, fractions):
    """Raise InvalidPaper if the sum of fraction times row is not the question."""
    if len(fractions) != len(rows):
        raise InvalidPaper("many", -1)
    if not gives_row(fractions, rows, question):
        raise InvalidPaper("sum", -1)


def check_lost(rows, question, change):
    """Raise InvalidPaper if a row notices the change, or if the question does not."""
    at = first_noticing(rows, change)
    if at is not None:
        raise InvalidPaper("notices", at)
    if effect_of(change, question) == 0:
        raise InvalidPaper("effect", -1)


def lets_answer(rows, question, thing):
    """Return "answer" or "lost" if the value is an answer paper; raise InvalidPaper otherwise."""
    if not has_answer_shape(thing):
        raise InvalidPaper("shape", -1)
    word, proof = thing
    if word == "answer":
        check_answer(rows, question, proof)
    else:
        check_lost(rows, question, proof)
    return word
