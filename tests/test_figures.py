"""lazyrails.figures: lines, words and numbers as points 22 and 23 of the document ask for them."""

import unittest

from lazyrails.errors import NoText
from lazyrails.figures import read_line, read_number, write_line

NUMBERS = (0, 1, 9, 10, 19, 100, 9999, 10 ** 59, 10 ** 60 - 1, int("123456789" * 6), 10 ** 99)
# Each of these words Python itself would take for a number, or is near to one.
WRONG = (
    "", " ", "-", "+", "-1", "-0", "+1", "00", "01", "007", "1_0", "1.0", "1e3", "0x1", "1 ", " 1", "1\n", "\n1", "\t1",
    "a", "1a", "a1", "--1", "\u0661", "\u00b2", "\uff11", "1\u0661", "0" * 60, "0" + "9" * 59,
)


class Numbers(unittest.TestCase):
    def test_plain_figures(self):
        for number in NUMBERS:
            self.assertEqual(read_number(str(number)), number)

    def test_anything_else(self):
        for word in WRONG:
            with self.subTest(word):
                self.assertRaises(NoText, read_number, word)


class Lines(unittest.TestCase):
    def test_read(self):
        self.assertEqual(read_line("go"), ("go", []))
        self.assertEqual(read_line("go 0"), ("go", [0]))
        self.assertEqual(read_line("go 5 10 " + "9" * 60), ("go", [5, 10, 10 ** 60 - 1]))

    def test_blanks(self):
        for line in ("go ", "go  1", "go 1 ", "go 1  2", "go\t1 ", " 1 go", "go 1\t2"):
            with self.subTest(line):
                self.assertRaises(NoText, read_line, line)
        # A line that begins with a blank has an empty word, which begins no line.
        self.assertEqual(read_line(" 1"), ("", [1]))
        self.assertEqual(read_line(""), ("", []))

    def test_written(self):
        self.assertEqual(write_line("go", []), "go")
        self.assertEqual(write_line("go", [0, 10]), "go 0 10")
        for number in NUMBERS:
            self.assertEqual(read_line(write_line("go", [number, 1])), ("go", [number, 1]))
