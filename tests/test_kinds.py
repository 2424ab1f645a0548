"""[2], [3], [4], [10]: kind functions."""

import unittest

from askrights import kinds
from tests.helpers import A0, A1, ANY_VALUES, B0, B1, both_ways, nested

SIXTY = 10 ** 60 - 1

NEVER = [None, True, False, "A", "a1", "a b", "", [], [1], [("a", 0)], {}.get(1), nested(29, 1, tuple),
         nested(29, (), list), ((),) * 3, (None,), ("a",), ("a", 0, 0), ("a", "0"), (1, 2, 3), [[("a", 0), 1]]]

INTEGERS = [0, 1, -1, 7, SIXTY, -SIXTY]
NAMES = ["a", "z", "ab", "abcdefgh", "zzzzzzzz", "lost"]
NOT_NAMES = ["", "abcdefghi", "A", "aB", "a1", "1", "a_b", "a b", " a", "a ", "a\n", "-", "a.b", "~", "a" * 4000, "\u00e4"]
CELLS = [("a", 0), ("abcdefgh", 9), ("a", SIXTY)]
NOT_CELLS = [("a", -1), ("a", True), ("a", False), ("", 0), ("abcdefghi", 0), ("A", 0), ["a", 0], ("a",), ("a", 0, 0),
             ("a", None), ("a", "0"), (0, "a"), (("a",), 0), ("a", (0,)), "a0", ()]
ROWS = [((A0, 1),), ((A0, -1),), ((A0, SIXTY), (A1, -SIXTY)), ((A0, 1), (A1, 1), (B0, 1), (B1, 1)),
        ((("a", 2), 1), (("a", 10), 1)), ((("a", 10), 1), (("aa", 0), 1), (("b", 1), 1))]
NOT_ROWS = [((A0, 0),), ((A0, True),), ((A0, False),), ((A0, None),), ((A0, "1"),), ((A0, (1,)),), [(A0, 1)],
            ([A0, 1],), ((["a", 0], 1),), ((A0, 1), (A0, 1)), ((A0, 1), (A0, 2)), ((A1, 1), (A0, 1)),
            ((B0, 1), (A1, 1)), ((A0,),), ((A0, 1, 1),), (A0, 1), ((("a", True), 1),), ((("a", -1), 1),),
            ((A0, 1), None), ((A0, 1), ()), (None, (A0, 1)), ((("abcdefghi", 0), 1),), ((A0, 1), 5), (5,), ("a",),
            ((A0, 1), (None, 1)), ((("a", 10), 1), (("a", 2), 1)), ((A0, 1), (B0, 1), (A1, 1))]
FRACTIONS = [(0, 1), (1, 1), (-1, 1), (1, 2), (-3, 2), (SIXTY, SIXTY - 1), (-SIXTY, 2), (8, SIXTY)]
NOT_FRACTIONS = [(0, 2), (0, 0), (0, -1), (1, 0), (1, -1), (-1, -2), (2, 4), (-2, 4), (3, 3), (SIXTY, SIXTY), (SIXTY, 3), (7, SIXTY),
                 (True, 1), (False, 1), (1, True), (0, True), [1, 2], (1,), (1, 2, 3), (1, None), ("1", 2), 1, "1/2",
                 ((1, 1), 2), (1, [2]), ()]


class Kinds(unittest.TestCase):
    def check(self, function, members, others):
        for thing in members:
            self.assertIs(both_ways(self, function, thing=thing), True, thing)
        for thing in others:
            self.assertIs(both_ways(self, function, thing=thing), False, thing)

    def test_examples(self):
        self.assertIs(kinds.is_integer(True), False)
        self.assertIs(kinds.is_number(-1), False)
        self.assertIs(kinds.is_name("abcdefghi"), False)
        self.assertIs(kinds.is_cell(("a", 0)), True)
        self.assertIs(kinds.is_row(((("a", 0), 0),)), False)
        self.assertIs(kinds.are_rows(((), ())), True)
        self.assertIs(kinds.is_fraction((2, 4)), False)
        self.assertIs(kinds.is_data(((("a", 0), 7), (("b", 0), -7))), True)

    def test_integers(self):
        self.check(kinds.is_integer, INTEGERS, NEVER + ["1", "-", (1,), [1], ()] + ROWS)

    def test_numbers(self):
        self.check(kinds.is_number, [0, 1, 60, SIXTY], NEVER + [-1, -SIXTY, "0", (0,), [0], ()])

    def test_names(self):
        self.check(kinds.is_name, NAMES, NEVER + NOT_NAMES + INTEGERS + [["a"], ("a",), ()])

    def test_cells(self):
        self.check(kinds.is_cell, CELLS, NEVER + NOT_CELLS + INTEGERS + ROWS)

    def test_rows(self):
        self.check(kinds.is_row, ROWS + [()], NEVER + NOT_ROWS + INTEGERS + CELLS)

    def test_data(self):
        self.check(kinds.is_data, ROWS + [()], NEVER + NOT_ROWS + INTEGERS + CELLS)

    def test_tuples_of_rows(self):
        good = [(), ((),), ((), ()), tuple(ROWS), (ROWS[1], (), ROWS[0], ROWS[1]), tuple(reversed(ROWS))]
        bad = [list(ROWS), ROWS[0], [()], (None,), ((), 1), ((), []), (ROWS[0], list(ROWS[1]))]
        self.check(kinds.are_rows, good, NEVER[:-9] + bad + [(thing,) for thing in NOT_ROWS])

    def test_fractions(self):
        self.check(kinds.is_fraction, FRACTIONS, NEVER + NOT_FRACTIONS + INTEGERS + NAMES + CELLS)

    def test_any_value_has_an_answer(self):
        for thing in ANY_VALUES + NEVER:
            for function in (kinds.is_integer, kinds.is_number, kinds.is_name, kinds.is_cell, kinds.is_row,
                             kinds.are_rows, kinds.is_fraction, kinds.is_data):
                self.assertIn(both_ways(self, function, thing=thing), (True, False))

    def test_the_limits_of_weights_and_days_are_ignored(self):
        wide = tuple((("a", day), 10 ** 70 + day) for day in range(500))
        self.assertIs(kinds.is_row(wide), True)
        self.assertIs(kinds.is_data(wide), True)
        self.assertIs(kinds.are_rows((wide,) * 100), True)


if __name__ == "__main__":
    unittest.main()
