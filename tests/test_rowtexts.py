"""[19], [20]: the written form of rows, and reading it."""

import random
import unittest

from askrights.bases import basis_of
from askrights.errors import InvalidText
from askrights.kinds import are_rows, is_row
from askrights.rowreadings import row_read, rows_read
from askrights.rowsums import scale_row
from askrights.rowtexts import row_text, rows_text
from tests.helpers import A0, B1, CELLS, SUM, both_ways, random_row

SIXTY = "9" * 60
LONGER = "1" + "0" * 60

VALID = ["-", "a.0:1", "a.0:-1", "abcdefgh.9:10", "a.0:1,b.0:1", "a.2:1,a.10:1", "a.10:1,aa.0:5,b.0:-7",
         "a." + SIXTY + ":" + SIXTY, "a.0:-" + SIXTY, "a.0:1,a.1:1,a.2:1,b.0:1"]

# Each word with the field of its first invalid part.
INVALID = [
    ("", 0), (" ", 0), ("a", 0), ("a.0", 0), ("a:1", 0), ("a.:1", 0), ("a.0:", 0), (".0:1", 0), ("0:1", 0),
    ("a.0:0", 0), ("a.0:-0", 0), ("a.0:00", 0), ("a.0:01", 0), ("a.0:-01", 0), ("a.00:1", 0), ("a.01:1", 0),
    ("a.-0:1", 0), ("a.-1:1", 0), ("a.0:+1", 0), ("a.0:--1", 0), ("a.0:-", 0), ("a.0: 1", 0), ("a.0:1 ", 0),
    (" a.0:1", 0), ("a. 0:1", 0), ("A.0:1", 0), ("abcdefghi.0:1", 0), ("a1.0:1", 0), ("a.b.0:1", 0), ("a.0:1:1", 0),
    ("a..0:1", 0), ("a.0::1", 0), ("a.0:1.0", 0), ("a.0:1_0", 0), ("a.1_0:1", 0), ("a.x:1", 0), ("a.0:x", 0),
    ("--", 0), ("- ", 0), ("-,-", 0), ("-,a.0:1", 0), ("a.0:1,-", 1), ("a.0:1,-,b.0:1", 1), ("-a.0:1", 0),
    (",", 0), (",a.0:1", 0), ("a.0:1,", 1), ("a.0:1,,b.0:1", 1), ("a.0:1,b.0:1,", 2), ("a.0:1, b.0:1", 1),
    ("a.0:1,a.0:1", 1), ("a.0:1,a.0:2", 1), ("a.1:1,a.0:1", 1), ("b.0:1,a.1:1", 1), ("a.10:1,a.2:1", 1),
    ("a.0:1,b.0:1,b.0:1,c", 2), ("a.0:1,c.0:1,b.0:1", 2), ("a.0:1,b.0:0,a.0:1", 1), ("a.0:1,a.1:1,a.1:1", 2),
    ("a." + LONGER + ":1", 0), ("a.0:" + LONGER, 0), ("a.0:-" + LONGER, 0), ("a.0:1,b.0:" + LONGER, 1),
    ("a." + "0" * 61 + ":1", 0), ("a.0:" + "1" * 3990, 0), ("a.0:1;b.0:1", 0), ("a.0:1|", 0), ("~", 0),
]


class RowTexts(unittest.TestCase):
    def fault(self, function, *arguments, **named):
        with self.assertRaises(InvalidText) as caught:
            function(*arguments, **named)
        return caught.exception.line, caught.exception.field

    def test_examples(self):
        self.assertEqual(row_text(((A0, 1), (B1, -2))), "a.0:1,b.1:-2")
        self.assertEqual(rows_text((SUM, ())), "a.0:1,b.0:1\n-")
        self.assertEqual(self.fault(row_read, "a.0:1,a.0:2", line=4), (4, 1))
        self.assertEqual(rows_read("a.0:1,b.0:1\n-"), (((("a", 0), 1), (("b", 0), 1)), ()))

    def test_written(self):
        self.assertEqual(both_ways(self, row_text, row=()), "-")
        self.assertEqual(both_ways(self, rows_text, rows=()), "")
        self.assertEqual(both_ways(self, rows_text, rows=((),)), "-")
        self.assertEqual(both_ways(self, rows_text, rows=(SUM, (), SUM)), "a.0:1,b.0:1\n-\na.0:1,b.0:1")
        self.assertEqual(row_text(((("a", 10), -10 ** 59), (("ab", 0), 100))), "a.10:-1" + "0" * 59 + ",ab.0:100")

    def test_written_with_any_number_of_digits(self):
        for digits in (1, 59, 60, 61, 119, 120, 121, 180, 1000, 5000):
            number = 10 ** (digits - 1)
            self.assertEqual(row_text(((A0, number),)), "a.0:1" + "0" * (digits - 1))
            self.assertEqual(row_text(((A0, -(10 * number - 1)),)), "a.0:-" + "9" * digits)
            self.assertEqual(row_text(((("a", number), 1),)), "a.1" + "0" * (digits - 1) + ":1")

    def test_a_great_returned_row_can_be_written(self):
        row = SUM
        for step in range(80):
            row = scale_row(row, 10 ** 60 - 1)
        self.assertEqual(len(row_text(row)), 2 * (4 + 4800) + 1)
        rows = tuple(random_row(random.Random(1), CELLS, 10 ** 60 - 1) for k in range(4))
        self.assertEqual(rows_text(basis_of(rows)).count("\n"), len(basis_of(rows)) - 1)

    def test_valid_words(self):
        for text in VALID:
            row = both_ways(self, row_read, text=text)
            self.assertIs(is_row(row), True)
            self.assertEqual(row_text(row), text)
            self.assertEqual(row_read(text, line=5), row)
            self.assertEqual(rows_read(text), (row,))
        self.assertEqual(row_read("a.2:1,a.10:-3"), ((("a", 2), 1), (("a", 10), -3)))

    def test_invalid_words(self):
        for text, field in INVALID:
            self.assertEqual(self.fault(row_read, text), (0, field), text)
            self.assertEqual(self.fault(row_read, text=text, line=7), (7, field), text)
            for before in ("-\n", "a.0:1\n-\n"):
                self.assertEqual(self.fault(rows_read, before + text), (before.count("\n"), field), text)
                self.assertEqual(self.fault(rows_read, before + text + "\n-\n,,"), (before.count("\n"), field), text)
            if text:
                self.assertEqual(self.fault(rows_read, text=text), (0, field), text)

    def test_the_line_is_passed_on_and_is_keyword_only(self):
        for line in (0, 1, 10 ** 20):
            self.assertEqual(self.fault(row_read, "", line=line), (line, 0))
        with self.assertRaises(TypeError):
            row_read("", 1)

    def test_lines(self):
        self.assertEqual(both_ways(self, rows_read, text=""), ())
        self.assertEqual(both_ways(self, rows_read, text="-"), ((),))
        self.assertEqual(both_ways(self, rows_read, text="-\n-\n-"), ((), (), ()))
        self.assertEqual(both_ways(self, rows_read, text="b.0:1\na.0:1\nb.0:1"), (((("b", 0), 1),), ((("a", 0), 1),),
                                                                                ((("b", 0), 1),)))
        for text, line in (("\n", 0), ("-\n", 1), ("\n-", 0), ("-\n\n-", 1), ("a.0:1\nb.0:1\n", 2), ("\n\n", 0)):
            self.assertEqual(self.fault(rows_read, text), (line, 0))

    def test_there_and_back(self):
        source = random.Random(50)
        for case in range(100):
            cells = [("a" * source.randint(1, 8), source.randint(0, 10 ** 60 - 1)) for k in range(6)] + CELLS[::4]
            rows = tuple(random_row(source, sorted(set(cells)), source.choice((1, 99, 10 ** 60 - 1)))
                         for k in range(source.randint(0, 5)))
            text = rows_text(rows)
            found = both_ways(self, rows_read, text=text)
            self.assertIs(are_rows(found), True)
            self.assertEqual(found, rows)
            self.assertEqual(rows_text(found), text)

    def test_whatever_is_read_is_written_as_the_same_string(self):
        source = random.Random(51)
        read = 0
        for case in range(20000):
            text = "".join(source.choice(("a", "b", ".", ":", ",", "-", "0", "1", "a.0:1", "b.1:-2", "\n"))
                           for k in range(source.randint(0, 5)))
            try:
                rows = rows_read(text)
            except InvalidText as fault:
                lines = text.split("\n")
                self.assertTrue(0 <= fault.line < len(lines))
                self.assertTrue(0 <= fault.field < len(lines[fault.line].split(",")))
                continue
            read += 1
            self.assertEqual(rows_text(rows), text)
        self.assertGreater(read, 100)


if __name__ == "__main__":
    unittest.main()
