"""lazyrails.program: points 15 and 16 of the document, and points 1 and 2 as far as they touch them."""

import itertools
import unittest

from lazyrails.errors import (
    FallsOut, NoCounter, NoMark, NoNote, NoRow, NoSide, NoStretch, NoValue, NoWidth, RailError,
)
from lazyrails.program import Program, check_value, greatest
from tests.programs import FAR, MARKS, STRETCHES, WIDTHS, greatest_program, sample, told_program

END = ("end",)


def refusal(marks, widths, stretches):
    """The class of the refusal, or None."""
    try:
        Program(marks, widths, stretches)
    except RailError as error:
        return error.__class__
    return None


class Told(unittest.TestCase):
    def test_what_was_handed_in_is_told(self):
        program = sample()
        self.assertEqual(program.marks(), MARKS)
        self.assertEqual(program.widths(), WIDTHS)
        self.assertEqual(program.many(), len(STRETCHES))
        for stretch, rows in enumerate(STRETCHES):
            self.assertEqual(program.rows(stretch), rows)

    def test_the_least_program(self):
        program = Program([], [], [[END]])
        self.assertEqual(told_program(program), ([], [], [[END]]))
        self.assertEqual(program.many(), 1)

    def test_rows_are_tuples_in_lists(self):
        program = sample()
        for stretch in range(program.many()):
            self.assertIsInstance(program.rows(stretch), list)
            for row in program.rows(stretch):
                self.assertIsInstance(row, tuple)
        self.assertIsInstance(program.marks(), list)
        self.assertIsInstance(program.widths(), list)

    def test_no_such_stretch(self):
        program = sample()
        for stretch in (-1, -4, 4, 5, FAR, -FAR):
            self.assertRaises(NoStretch, program.rows, stretch)

    def test_told_lists_are_new(self):
        program = sample()
        before = told_program(program)
        for found in (program.marks(), program.widths(), program.rows(0), program.rows(3)):
            found.append(1)
            found[0] = 7
            found.clear()
        self.assertEqual(told_program(program), before)

    def test_lists_handed_in_are_not_kept(self):
        marks, widths, stretches = list(MARKS), list(WIDTHS), [list(rows) for rows in STRETCHES]
        program = Program(marks, widths, stretches)
        first = stretches[0]
        marks[0] = 2
        widths.append(4)
        first[0] = ("bell", 1)
        stretches[1].clear()
        stretches.pop()
        self.assertEqual(told_program(program), (MARKS, WIDTHS, STRETCHES))

    def test_lists_handed_in_stay(self):
        marks, widths, stretches = list(MARKS), list(WIDTHS), [list(rows) for rows in STRETCHES]
        Program(marks, widths, stretches)
        self.assertEqual((marks, widths, stretches), (MARKS, WIDTHS, STRETCHES))

    def test_two_programs_share_nothing(self):
        rows = [("bell", 1), END]
        program = Program([1], [2], [rows, rows])
        other = Program([1], [2], [rows, rows])
        program.rows(0).clear()
        program.marks().append(2)
        self.assertEqual(told_program(program), told_program(other))

    def test_the_greatest_sizes(self):
        program = greatest_program()
        self.assertEqual(program.many(), 40)
        self.assertEqual([len(program.rows(stretch)) for stretch in range(40)], [100] * 40)
        self.assertEqual((len(program.marks()), len(program.widths())), (30, 30))
        self.assertEqual(set(program.widths()), set(range(1, 9)))

    def test_somewhat_beyond_the_sizes(self):
        rows = [("set", 59, 1)] * 200 + [("go", 200)]
        program = Program([1] * 60, [8] * 60, [rows] * 80)
        self.assertEqual((program.many(), program.rows(79)), (80, rows))


class Taken(unittest.TestCase):
    """Edges of what a program may have."""

    def test_notes(self):
        for note in (0, 1, 9998, 9999):
            self.assertIsNone(refusal([], [], [[("bell", note), END]]))

    def test_marks_and_sides(self):
        for side, mark in itertools.product((1, 2), (0, 1)):
            self.assertIsNone(refusal([side, 2], [], [[("set", mark, side), ("ask", mark, 0, 1)]]))

    def test_widths(self):
        for width in range(1, 9):
            self.assertIsNone(refusal([], [width], [[("bump", 0, 0), END]]))

    def test_rows_of_the_own_stretch(self):
        for left, right in itertools.product(range(3), repeat=2):
            self.assertIsNone(refusal([1], [], [[("bell", 1), ("bell", 2), ("ask", 0, left, right)], [END]]))
        for row in range(3):
            self.assertIsNone(refusal([], [1], [[("bump", 0, row), ("bump", 0, row), ("go", row)]]))

    def test_last_rows(self):
        for row in (("ask", 0, 0, 0), ("go", 0), END):
            self.assertIsNone(refusal([1], [1], [[row], [row], [("bell", 1), row]]))

    def test_calls_of_later_stretches(self):
        for called in (1, 2, 3):
            self.assertIsNone(refusal([], [], [[("call", called), END], [END], [END], [END]]))
        self.assertIsNone(refusal([], [], [[END], [END], [("call", 3), END], [END]]))


class Refused(unittest.TestCase):
    def test_marks_sides(self):
        for side in (0, 3, -1, FAR, -FAR):
            self.assertEqual(refusal([side], [], [[END]]), NoSide)
            self.assertEqual(refusal([1, 2, side], [], [[END]]), NoSide)

    def test_widths(self):
        for width in (0, 9, -1, FAR, -FAR):
            self.assertEqual(refusal([], [width], [[END]]), NoWidth)
            self.assertEqual(refusal([], [8, 1, width], [[END]]), NoWidth)

    def test_no_stretch(self):
        self.assertEqual(refusal([], [], []), NoStretch)
        self.assertEqual(refusal([1], [1], []), NoStretch)

    def test_a_stretch_without_rows(self):
        for stretches in ([[]], [[], [END]], [[END], []], [[END], [], [END]]):
            self.assertEqual(refusal([], [], stretches), FallsOut)

    def test_notes(self):
        for note in (-1, 10000, FAR, -FAR):
            self.assertEqual(refusal([], [], [[("bell", note), END]]), NoNote)
            self.assertEqual(refusal([], [], [[END], [END, ("bell", note), END]]), NoNote)

    def test_marks(self):
        for mark in (-1, 2, FAR, -FAR):
            self.assertEqual(refusal([1, 2], [], [[("set", mark, 1), END]]), NoMark)
            self.assertEqual(refusal([1, 2], [], [[("ask", mark, 0, 0)]]), NoMark)
        self.assertEqual(refusal([], [], [[("set", 0, 1), END]]), NoMark)
        self.assertEqual(refusal([], [5], [[("ask", 0, 0, 0)]]), NoMark)

    def test_sides(self):
        for side in (0, 3, -1, FAR, -FAR):
            self.assertEqual(refusal([1], [], [[("set", 0, side), END]]), NoSide)

    def test_counters(self):
        for counter in (-1, 2, FAR, -FAR):
            self.assertEqual(refusal([], [1, 1], [[("bump", counter, 0), END]]), NoCounter)
        self.assertEqual(refusal([1], [], [[("bump", 0, 0), END]]), NoCounter)

    def test_rows(self):
        # The other stretch has more rows, which are not this one's.
        other = [END] * 5
        for row in (-1, 2, 3, FAR, -FAR):
            self.assertEqual(refusal([1], [], [[END, ("ask", 0, row, 0)], other]), NoRow)
            self.assertEqual(refusal([1], [], [[END, ("ask", 0, 0, row)], other]), NoRow)
            self.assertEqual(refusal([], [1], [other, [("bump", 0, row), END], other]), NoRow)
            self.assertEqual(refusal([], [], [other, [END, ("go", row)]]), NoRow)

    def test_calls(self):
        for called in (-1, 0, 1, 3, FAR, -FAR):
            self.assertEqual(refusal([], [], [[END], [("call", called), END], [END]]), NoStretch)
        self.assertEqual(refusal([], [], [[("call", 0), END]]), NoStretch)
        self.assertEqual(refusal([], [], [[("call", 1), END]]), NoStretch)

    def test_last_rows(self):
        for row in (("bell", 1), ("set", 0, 1), ("bump", 0, 0), ("call", 2)):
            self.assertEqual(refusal([1], [1], [[END], [END, row], [END]]), FallsOut)
            self.assertEqual(refusal([1], [1], [[row], [END], [END]]), FallsOut)
        self.assertEqual(refusal([], [], [[END], [END], [("bell", 1)]]), FallsOut)

    def test_lists_handed_in_stay(self):
        for marks, widths, stretches in (
            ([1, 3], [1], [[END]]),
            ([1], [9], [[END]]),
            ([1], [1], []),
            ([1], [1], [[("bell", 1)], [("go", 1)]]),
            ([1], [1], [[END], [("call", 0), ("bell", -1)]]),
        ):
            handed = (list(marks), list(widths), [list(rows) for rows in stretches])
            self.assertIsNotNone(refusal(*handed))
            self.assertEqual(handed, (marks, widths, stretches))


class Order(unittest.TestCase):
    """The first fault is the one that is told."""

    def test_ahead_of_the_stretches(self):
        self.assertEqual(refusal([0], [0], []), NoSide)
        self.assertEqual(refusal([1], [0], []), NoWidth)
        self.assertEqual(refusal([1], [0], [[]]), NoWidth)
        self.assertEqual(refusal([0], [1], [[]]), NoSide)
        self.assertEqual(refusal([1, 0], [0], [[("bell", -1)]]), NoSide)

    def test_any_two_rows_in_their_order(self):
        faults = (
            (NoNote, ("bell", -1)),
            (NoMark, ("set", 1, 1)),
            (NoSide, ("set", 0, 0)),
            (NoCounter, ("bump", 1, 0)),
            (NoRow, ("go", 9)),
            (NoStretch, ("call", 0)),
        )
        for (error, row), (other_error, other) in itertools.product(faults, repeat=2):
            self.assertEqual(refusal([1], [1], [[row, other, END]]), error)
            self.assertEqual(refusal([1], [1], [[row, END], [other, END]]), error)
            self.assertEqual(refusal([1], [1], [[END, row], [other, END]]), error)

    def test_from_left_to_right_in_a_row(self):
        self.assertEqual(refusal([1], [], [[("set", 1, 0), END]]), NoMark)
        self.assertEqual(refusal([1], [], [[("ask", 1, 9, 9)]]), NoMark)
        self.assertEqual(refusal([], [1], [[("bump", 1, 9), END]]), NoCounter)

    def test_a_stretch_without_rows_among_others(self):
        self.assertEqual(refusal([], [], [[], [("go", 9)]]), FallsOut)
        self.assertEqual(refusal([], [], [[("go", 9)], []]), NoRow)

    def test_the_last_row_behind_all_rows_of_its_stretch(self):
        self.assertEqual(refusal([], [], [[END, ("bell", -1)]]), NoNote)
        self.assertEqual(refusal([], [], [[("go", 9), ("bell", 1)]]), NoRow)
        self.assertEqual(refusal([], [], [[END, ("bell", 1)], [("go", 9)]]), FallsOut)
        self.assertEqual(refusal([], [], [[END, ("bell", 1)], []]), FallsOut)
        self.assertEqual(refusal([], [], [[END, ("call", 1)], [("go", 9)]]), FallsOut)
        self.assertEqual(refusal([], [], [[END, ("call", 0)]]), NoStretch)
        self.assertEqual(refusal([], [1], [[END, ("bump", 0, 2)]]), NoRow)


class Values(unittest.TestCase):
    def test_greatest(self):
        self.assertEqual([greatest(width) for width in range(1, 9)], [1, 3, 7, 15, 31, 63, 127, 255])

    def test_check_value(self):
        for width in range(1, 9):
            self.assertIsNone(check_value(0, width))
            self.assertIsNone(check_value(2 ** width - 1, width))
            for value in (-1, 2 ** width, FAR, -FAR):
                self.assertRaises(NoValue, check_value, value, width)
