"""What groups know: the rows that they were shown, those to come, and what these tell about a question."""

from askrights.histories import data_of, shown_in
from askrights.moduli import modulus_of
from askrights.questions import questions_from
from askrights.rowsums import row_value


def rows_shown(shown, group):
    """Return the rows, among answers (day, name, person, question, value), that the group was shown."""
    rows = {question for day, name, person, question, value in shown if person in group and question != ()}
    return tuple(sorted(rows))


def known_rows(history, group):
    """Return the rows that the group knows, ascending and without the zero row."""
    return rows_shown(shown_in(history), group)


def rows_to_come(rights, today, group):
    """Return the questions from today on of the rights of the group, ascending and without the zero row."""
    questions = [row for name, right in rights if right[0] in group for row in questions_from(right, today)]
    return tuple(sorted({row for row in questions if row != ()}))


def told_about(rows, data, question):
    """Return (v, g): what the rows, with their values in the data, tell about the question."""
    modulus = modulus_of(rows, question)
    value = row_value(question, data)
    return (value, 0) if modulus == 0 else (value % modulus, modulus)


def knows(history, group, question):
    """Return the pair (v, g) that states what the group knows about the question."""
    return told_about(known_rows(history, group), data_of(history), question)
