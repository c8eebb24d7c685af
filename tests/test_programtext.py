"""lazyrails.programtext: point 23 of the document, and point 16 as far as texts touch it."""

import unittest

from lazyrails.errors import (
    FallsOut, NoCounter, NoMark, NoNote, NoRow, NoSide, NoStretch, NoText, NoWidth,
)
from lazyrails.program import Program
from lazyrails.programtext import read_program, write_program
from tests.programs import chain, greatest_program, random_program, sample, told_program

END = ("end",)
TEXT = """\
marks 1 2
widths 1 8
stretch
bell 9999
set 1 2
ask 0 0 4
bump 1 0
go 5
call 1
end
stretch
end"""
PROGRAM = ([1, 2], [1, 8], [
    [("bell", 9999), ("set", 1, 2), ("ask", 0, 0, 4), ("bump", 1, 0), ("go", 5), ("call", 1), END], [END],
])
LEAST = "marks\nwidths\nstretch\nend"


class Written(unittest.TestCase):
    def test_line_by_line(self):
        self.assertEqual(write_program(Program(*PROGRAM)), TEXT)

    def test_no_marks_and_no_widths(self):
        self.assertEqual(write_program(Program([], [], [[END]])), LEAST)

    def test_the_program_stays(self):
        program = sample()
        before = told_program(program)
        self.assertEqual(write_program(program), write_program(program))
        self.assertEqual(told_program(program), before)


class Read(unittest.TestCase):
    def test_line_by_line(self):
        program = read_program(TEXT)
        self.assertIsInstance(program, Program)
        self.assertEqual(told_program(program), PROGRAM)
        for row in program.rows(0):
            self.assertIsInstance(row, tuple)

    def test_no_marks_and_no_widths(self):
        self.assertEqual(told_program(read_program(LEAST)), ([], [], [[END]]))
        self.assertEqual(told_program(read_program("marks 2\nwidths\nstretch\nend")), ([2], [], [[END]]))
        self.assertEqual(told_program(read_program("marks\nwidths 8\nstretch\nend")), ([], [8], [[END]]))

    def test_what_was_written(self):
        programs = [sample(), chain(40), greatest_program()] + [random_program(seed) for seed in range(200)]
        for program in programs:
            text = write_program(program)
            again = read_program(text)
            self.assertEqual(told_program(again), told_program(program))
            self.assertEqual(write_program(again), text)

    def test_each_reading_is_a_program_of_its_own(self):
        one, other = read_program(TEXT), read_program(TEXT)
        one.marks().clear()
        one.rows(0).clear()
        self.assertEqual(told_program(other), PROGRAM)
        self.assertEqual(told_program(one), PROGRAM)


class NoForm(unittest.TestCase):
    def refuse(self, text):
        with self.subTest(text):
            self.assertRaises(NoText, read_program, text)

    def test_empty_texts(self):
        for text in ("", "\n", " ", "\n\n", "marks", "widths", "stretch", "marks\n", "marks\n\nwidths"):
            self.refuse(text)

    def test_line_ends(self):
        for text in (TEXT, LEAST, "marks\nwidths"):
            for wrong in (text + "\n", "\n" + text, text.replace("\n", "\n\n", 1), text.replace("\n", "\r\n"),
                          text.replace("\n", " \n"), text.replace("\n", "\n "), text + " ", " " + text):
                self.refuse(wrong)

    def test_blanks(self):
        for at, sign in enumerate(TEXT):
            if sign == " ":
                self.refuse(TEXT[:at] + "  " + TEXT[at + 1:])
                self.refuse(TEXT[:at] + "\t" + TEXT[at + 1:])
                self.refuse(TEXT[:at] + "\n" + TEXT[at + 1:])
        for word in ("marks", "widths", "bell", "set", "ask", "bump", "go", "call"):
            self.refuse(TEXT.replace(word + " ", word, 1))

    def test_the_first_lines(self):
        for text in (
            "widths\nmarks\nstretch\nend", "marks\nstretch\nend", "widths\nstretch\nend", "marks\nmarks\nstretch\nend",
            "marks\nwidths\nwidths\nstretch\nend", "marks\nmarks\nwidths\nstretch\nend", "stretch\nend",
            "marks\nstretch\nend\nwidths", "Marks\nwidths\nstretch\nend", "mark\nwidths\nstretch\nend",
            "marks\nwidth\nstretch\nend",
        ):
            self.refuse(text)

    def test_rows_ahead_of_a_stretch(self):
        for text in ("marks\nwidths\nend", "marks\nwidths\nend\nstretch\nend", "marks\nwidths\nbell 1\nstretch\nend"):
            self.refuse(text)

    def test_rows(self):
        for row in (
            "", "bells 1", "Bell 1", "bel 1", "ends", "line 0", "marks", "widths", "marks 1", "stretch 0", "stretch ",
            "bell", "bell 1 2", "set 0", "set 0 1 1", "set", "ask 0 0", "ask 0 0 0 0", "ask", "bump 0", "bump 0 0 0",
            "bump", "go", "go 0 0", "call", "call 1 1", "end 0", "end end", "bell bell", "0", "1 bell", "bell -1",
            "bell +1", "bell 01", "bell 00", "bell 1.0", "bell 1_0", "bell x", "set -0 1", "set 0 one", "go 0x0",
        ):
            self.refuse("marks 1\nwidths 1\nstretch\n" + row + "\nend\nstretch\nend")
            self.refuse("marks 1\nwidths 1\nstretch\nend\nstretch\nend\n" + row)

    def test_marks_and_widths(self):
        for numbers in (" -1", " +1", " 01", " 1.0", " x", " 1,2", "1", " 1  2", " 1 ", " 1 -2", ": 1"):
            self.refuse("marks" + numbers + "\nwidths\nstretch\nend")
            self.refuse("marks\nwidths" + numbers + "\nstretch\nend")

    def test_other_signs(self):
        for text in (LEAST + "~", LEAST + "!", "~" + LEAST, LEAST.replace("marks", "marks \u0661")):
            self.refuse(text)

    def test_whatever_else_is_wrong(self):
        for ahead in ("marks 3\nwidths", "marks\nwidths 0", "marks\nwidths", "marks 0\nwidths 9"):
            for behind in (
                "\nstretch\nbell 10000\nset 0 0\nx", "\nx", "\nstretch\ngo 9\nend\n", "\nstretch\nstretch\nend ",
            ):
                self.refuse(ahead + behind)


class Refused(unittest.TestCase):
    """Texts that have the form, of programs that are refused."""

    def refuse(self, error, text):
        with self.subTest(text):
            self.assertRaises(error, read_program, text)

    def test_no_stretch(self):
        for text in ("marks\nwidths", "marks 1 2\nwidths 8"):
            self.refuse(NoStretch, text)

    def test_each_refusal(self):
        far = "9" * 60
        for number in ("0", "3", far):
            self.refuse(NoSide, "marks 1 " + number + "\nwidths\nstretch\nend")
            self.refuse(NoSide, "marks 1\nwidths\nstretch\nset 0 " + number + "\nend")
        for number in ("0", "9", far):
            self.refuse(NoWidth, "marks\nwidths 1 " + number + "\nstretch\nend")
        for number in ("10000", far):
            self.refuse(NoNote, "marks\nwidths\nstretch\nbell " + number + "\nend")
        for number in ("1", far):
            self.refuse(NoMark, "marks 1\nwidths 1 1\nstretch\nset " + number + " 1\nend")
            self.refuse(NoMark, "marks 1\nwidths 1 1\nstretch\nask " + number + " 0 0")
            self.refuse(NoCounter, "marks 1 1\nwidths 1\nstretch\nbump " + number + " 0\nend")
        for number in ("2", far):
            self.refuse(NoRow, "marks 1\nwidths 1\nstretch\nask 0 " + number + " 0\nend")
            self.refuse(NoRow, "marks 1\nwidths 1\nstretch\nask 0 0 " + number + "\nend")
            self.refuse(NoRow, "marks 1\nwidths 1\nstretch\nbump 0 " + number + "\nend")
            self.refuse(NoRow, "marks 1\nwidths 1\nstretch\nend\ngo " + number)
        for number in ("0", "1", "3", far):
            self.refuse(NoStretch, "marks\nwidths\nstretch\nend\nstretch\ncall " + number + "\nend\nstretch\nend")

    def test_falls_out(self):
        for text in (
            "marks\nwidths\nstretch", "marks\nwidths\nstretch\nstretch\nend", "marks\nwidths\nstretch\nend\nstretch",
            "marks\nwidths\nstretch\nbell 1", "marks\nwidths\nstretch\ncall 1\nstretch\nend",
            "marks 1\nwidths\nstretch\nset 0 1", "marks\nwidths 1\nstretch\nbump 0 0",
        ):
            self.refuse(FallsOut, text)

    def test_in_the_order_of_programs(self):
        self.refuse(NoSide, "marks 3\nwidths 9")
        self.refuse(NoWidth, "marks 1\nwidths 9")
        self.refuse(NoSide, "marks 3\nwidths 9\nstretch\nbell 10000")
        self.refuse(NoNote, "marks\nwidths\nstretch\nbell 10000\nset 0 0\nstretch")
        self.refuse(NoMark, "marks\nwidths\nstretch\nset 0 0\nbell 10000")
        self.refuse(FallsOut, "marks\nwidths\nstretch\nbell 1\nstretch\nbell 10000\nend")
