"""What the tests share: calls in both ways, sample rows, and slow but plain computations to compare with."""

import copy
import random
from fractions import Fraction
from itertools import combinations
from math import gcd

A0, A1, B0, B1 = ("a", 0), ("a", 1), ("b", 0), ("b", 1)
SUM = ((A0, 1), (B0, 1))
CHAIN = (((A0, 1), (A1, 3)), ((A1, 1), (B0, 3)))
CELLS = [(account, day) for account in ("a", "b", "c") for day in range(10)]

# Values of every kind that "any value" names, none of which is a paper or a row that is not empty.
ANY_VALUES = [
    0, 1, -1, 10 ** 60 - 1, -(10 ** 60 - 1), True, False, None, "", "a", "answer", "shape", [], [()], ["answer", ()],
    ("answer",), ("lost",), ("value",), ("none",), ("answer", None), ("answer", []), ("lost", []), ("answer", (), ()),
    ("lost", (), ()), (None, ()), (True, ()), ([], ()), (("answer", ()),), ("answers", ()), ("ANSWER", ()),
    ("answer", ((2, 4),)), ("answer", ((1, 0),)), ("answer", ((1, -1),)), ("answer", ((True, 1),)),
    ("answer", ((1, True),)), ("answer", ([1, 1],)), ("answer", ((0, 2),)), ("lost", ((A0, 0),)),
    ("lost", ((A0, True),)), ("lost", ((B0, 1), (A0, 1))), ("lost", ([A0, 1],)), ("lost", "a.0:1"), 7, (7, 7),
]


def nested(depth, inner, kind):
    """A value that is nested this deep."""
    thing = inner
    for step in range(depth):
        thing = kind([thing])
    return thing


ANY_VALUES += [nested(29, 1, tuple), nested(29, (), list), ("answer", nested(28, 1, tuple)), tuple(range(5000))]


def both_ways(test, function, **arguments):
    """Call by position and by name; the arguments stay equal, and both results are the same."""
    before = copy.deepcopy(arguments)
    by_position = function(*arguments.values())
    by_name = function(**arguments)
    test.assertEqual(repr(by_position), repr(by_name))
    test.assertEqual(repr(arguments), repr(before))
    test.assertEqual(arguments, before)
    return by_position


def paper_fault(test, error, function, **arguments):
    """The (word, at) of the error that both ways of the call raise."""
    before = copy.deepcopy(arguments)
    faults = []
    for call in (lambda: function(*arguments.values()), lambda: function(**arguments)):
        with test.assertRaises(error) as caught:
            call()
        faults.append((caught.exception.word, caught.exception.at))
    test.assertEqual(repr(arguments), repr(before))
    test.assertEqual(repr(faults[0]), repr(faults[1]))
    return faults[0]


def row(*weights, cells=CELLS):
    """The row with these weights at the first cells."""
    return tuple((cell, weight) for cell, weight in zip(cells, weights) if weight != 0)


def chain(length, factor):
    """The rows x0 + factor * x1, x1 + factor * x2, ..."""
    return tuple(((CELLS[k], 1), (CELLS[k + 1], factor)) for k in range(length))


def random_row(source, cells, size, share=0.7):
    """A row on some of the cells with weights from -size to size."""
    weights = [source.randint(-size, size) if source.random() < share else 0 for cell in cells]
    return tuple((cell, weight) for cell, weight in zip(cells, weights) if weight != 0)


def random_cases(seed, many, *, most_rows=4, most_cells=5, size=4):
    """Tuples of rows on few cells, among them zero rows, repeated rows and multiples."""
    source = random.Random(seed)
    for case in range(many):
        cells = CELLS[:source.randint(1, most_cells)]
        rows = [random_row(source, cells, size) for k in range(source.randint(0, most_rows))]
        if rows and source.random() < 0.3:
            rows.append(tuple((cell, 2 * weight) for cell, weight in source.choice(rows)))
        if source.random() < 0.2:
            rows.insert(source.randint(0, len(rows)), ())
        yield tuple(rows), random_row(source, cells + CELLS[5:6], size, 0.6), source


def matrix_of(rows, cells):
    weights = [dict(one) for one in rows]
    return [[one.get(cell, 0) for cell in cells] for one in weights]


def cells_in(*rows):
    return sorted({cell for one in rows for cell, weight in one})


def plain_rank(rows):
    """The rank by elimination with fractions."""
    lines = [[Fraction(number) for number in line] for line in matrix_of(rows, cells_in(*rows))]
    rank = 0
    for column in range(len(cells_in(*rows))):
        found = [k for k in range(rank, len(lines)) if lines[k][column] != 0]
        if found:
            lines[rank], lines[found[0]] = lines[found[0]], lines[rank]
            for k in range(rank + 1, len(lines)):
                factor = lines[k][column] / lines[rank][column]
                lines[k] = [x - factor * y for x, y in zip(lines[k], lines[rank])]
            rank += 1
    return rank


def determinant(matrix):
    if not matrix:
        return 1
    first, rest = matrix[0], matrix[1:]
    return sum((-1) ** k * number * determinant([line[:k] + line[k + 1:] for line in rest])
               for k, number in enumerate(first) if number != 0)


def minor_gcd(rows, cells):
    """The greatest common divisor of all minors that have as many columns as there are rows."""
    matrix = matrix_of(rows, cells)
    result = 0
    for columns in combinations(range(len(cells)), len(rows)):
        result = gcd(result, determinant([[line[k] for k in columns] for line in matrix]))
    return result


def independent(rows):
    """The rows that are not in the span of those before them."""
    chosen = ()
    for one in rows:
        if plain_rank(chosen + (one,)) > len(chosen):
            chosen += (one,)
    return chosen


def plain_modulus(rows, question):
    """The modulus as a quotient of greatest common divisors of minors."""
    chosen = independent(rows)
    cells = cells_in(*rows, question)
    return minor_gcd(chosen + (question,), cells) // minor_gcd(chosen, cells)


def weight(one, cell):
    return dict(one).get(cell, 0)


def effect(one, other):
    return sum(number * weight(other, cell) for cell, number in one)


def total(factors, rows):
    """The sum of factor times row, as a row of fractions or integers."""
    weights = {}
    for factor, one in zip(factors, rows):
        for cell, number in one:
            weights[cell] = weights.get(cell, 0) + factor * number
    return tuple((cell, weights[cell]) for cell in sorted(weights) if weights[cell] != 0)


def all_minors_gcd(matrix, size):
    """The greatest common divisor of all minors of this size."""
    result = 0
    width = len(matrix[0]) if matrix else 0
    for lines in combinations(matrix, size):
        for columns in combinations(range(width), size):
            result = gcd(result, determinant([[line[k] for k in columns] for line in lines]))
    return result


def some_data_has(rows, values):
    """Whether integers can be the values of the cells: the minors must not change with the values beside them."""
    matrix = matrix_of(rows, cells_in(*rows))
    wider = [line + [value] for line, value in zip(matrix, values)]
    rank = plain_rank(rows)
    return (all_minors_gcd(wider, rank + 1) == 0
            and all_minors_gcd(wider, rank) == all_minors_gcd(matrix, rank))


def values_of(rows, data):
    return tuple(effect(one, data) for one in rows)
