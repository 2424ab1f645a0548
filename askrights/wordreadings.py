"""Reading the words of lines and commands.

Each reader gets a word and the list of the values of the words before it. It returns the value of the word,
or None if the word cannot stand there.
"""

from askrights.errors import InvalidText
from askrights.integertexts import integer_read, number_read
from askrights.kinds import is_name
from askrights.rightkinds import are_accounts, are_weights
from askrights.rowreadings import row_read


def name_word(word, before):
    """Read a name."""
    return word if is_name(word) else None


def names_word(word, before):
    """Read an ascending nonempty tuple of names."""
    names = tuple(word.split(","))
    return names if are_accounts(names) else None


def side_word(word, before):
    """Read an ascending tuple of names; - is the empty one."""
    return () if word == "-" else names_word(word, before)


def integer_word(word, before):
    """Read an integer."""
    return integer_read(word)


def day_word(word, before):
    """Read a day."""
    return number_read(word)


def later_word(word, before):
    """Read a day that is not less than the one before it."""
    day = number_read(word)
    return None if day is None or day < before[-1] else day


def length_word(word, before):
    """Read the length of a window."""
    length = number_read(word)
    return None if length == 0 else length


def modulus_word(word, before):
    """Read the m of a wall."""
    m = number_read(word)
    return None if m == 1 else m


def weights_word(word, before):
    """Read the weights of a right."""
    parts = [part.partition(":") for part in word.split(",")]
    weights = tuple([(account, integer_read(text)) for account, colon, text in parts])
    return weights if are_weights(weights) else None


def question_word(word, before):
    """Read a row."""
    try:
        return row_read(word)
    except InvalidText:
        return None


KINDS = {"total": (day_word,), "window": (length_word,), "period": (day_word, later_word)}


def kind_word(word, before):
    """Read the first word of a right's kind."""
    return word if word in KINDS else None


LINES = {
    "open": (name_word, names_word),
    "enter": (name_word, integer_word),
    "correct": (name_word, day_word, integer_word),
    "evening": (),
    "grant": (name_word, name_word, weights_word, day_word, later_word, kind_word),
    "end": (name_word,),
    "halve": (name_word, names_word, name_word, name_word),
    "merge": (name_word, name_word, name_word),
    "split": (name_word, side_word, name_word, name_word),
    "wall": (name_word, names_word, question_word, modulus_word),
    "unwall": (name_word,),
}

QUERIES = {
    "undo": (),
    "count": (),
    "log": (),
    "new": (),
    "day": (),
    "archives": (),
    "rights": (),
    "walls": (),
    "kept": (name_word,),
    "answer": (question_word,),
    "knows": (names_word, question_word),
    "stands": (names_word, question_word, modulus_word),
    "cost": (name_word,),
    "shares": (name_word,),
}


def line_form(words):
    """Return the readers of the words behind the first one of a line, or None if no line begins with it."""
    if words[0] != "grant":
        return LINES.get(words[0])
    # Readers behind a kind that is missing or wrong are never reached.
    kind = words[6] if len(words) > 6 else ""
    return LINES["grant"] + KINDS.get(kind, ())


def query_form(words):
    """Return the readers of the words behind the first one of a query, or None if no query begins with it."""
    return QUERIES.get(words[0])


def words_read(readers, words):
    """Return (values, fault): fault is the index of the first word that is invalid or missing, or None."""
    values = []
    for at, word in enumerate(words):
        if at == len(readers):
            return values, at
        reader = readers[at]
        value = reader(word, values)
        if value is None:
            return values, at
        values.append(value)
    if len(values) < len(readers):
        return values, len(values)
    return values, None
