"""lazyrails.reach: point 18 of the document, and points 1 and 2 as far as they touch it."""

import unittest

from lazyrails.program import Program
from lazyrails.reach import reached, trimmed
from lazyrails.reader import Reader
from tests.programs import (
    MARKS, WIDTHS, anew_by_place, chain, greatest_program, random_program, sample, told_program, told_reader,
)

END = ("end",)


def reached_plainly(program):
    """Point 18 as a rule that is gone through again until it tells nothing new."""
    found = {(0, 0)}
    while True:
        more = set(found)
        for stretch, at in found:
            word, *parts = program.rows(stretch)[at]
            if word in ("bell", "set", "bump", "call"):
                more.add((stretch, at + 1))
            if word in ("ask", "bump"):
                more.update((stretch, row) for row in parts[1:])
            if word == "go":
                more.add((stretch, parts[0]))
            if word == "call":
                more.add((parts[0], 0))
        if more == found:
            return sorted(found)
        found = more


def reached_of(rows, *others):
    return reached(Program([1], [1], [rows] + list(others)))


class Reached(unittest.TestCase):
    def test_the_least_program(self):
        self.assertEqual(reached(Program([], [], [[END]])), [(0, 0)])

    def test_the_sample(self):
        self.assertEqual(reached(sample()), [
            (0, 0), (0, 1), (0, 2), (0, 3), (0, 4), (0, 5), (0, 6), (0, 7), (0, 8),
            (1, 0), (1, 1), (1, 2), (1, 3), (1, 4),
            (2, 0), (2, 1), (2, 2), (2, 3), (2, 4),
        ])

    def test_a_list_of_tuples_of_two(self):
        found = reached(sample())
        self.assertIsInstance(found, list)
        for place in found:
            self.assertIsInstance(place, tuple)
            self.assertEqual(len(place), 2)

    def test_the_next_row(self):
        self.assertEqual(reached_of([("bell", 1), ("set", 0, 1), END, END]), [(0, 0), (0, 1), (0, 2)])

    def test_end_leads_nowhere(self):
        self.assertEqual(reached_of([END, ("bell", 1), END]), [(0, 0)])

    def test_go(self):
        self.assertEqual(reached_of([("go", 2), END, ("go", 2)]), [(0, 0), (0, 2)])
        self.assertEqual(reached_of([("go", 0), END]), [(0, 0)])
        self.assertEqual(reached_of([("go", 3), END, ("go", 1), ("go", 2)]), [(0, 0), (0, 1), (0, 2), (0, 3)])

    def test_both_rows_of_an_ask_whatever_its_mark(self):
        self.assertEqual(reached_of([("ask", 0, 2, 4), END, END, END, END]), [(0, 0), (0, 2), (0, 4)])
        self.assertEqual(reached_of([("set", 0, 1), ("ask", 0, 4, 2), END, END, END]), [(0, 0), (0, 1), (0, 2), (0, 4)])
        self.assertEqual(reached_of([("ask", 0, 2, 2), END, END]), [(0, 0), (0, 2)])

    def test_both_rows_of_a_bump(self):
        self.assertEqual(reached_of([("bump", 0, 3), END, END, END]), [(0, 0), (0, 1), (0, 3)])
        self.assertEqual(reached_of([("bump", 0, 0), END, END]), [(0, 0), (0, 1)])

    def test_a_call(self):
        self.assertEqual(reached_of([("call", 2), END, END], [END], [END, END]), [(0, 0), (0, 1), (2, 0)])

    def test_behind_a_call_of_a_stretch_that_never_ends(self):
        self.assertEqual(reached_of([("call", 1), END], [("go", 0), END]), [(0, 0), (0, 1), (1, 0)])

    def test_a_call_that_is_not_reached_itself(self):
        self.assertEqual(reached_of([END, ("call", 1), END], [END]), [(0, 0)])
        self.assertEqual(reached_of([("call", 2), END], [("call", 3), END], [END], [END]), [(0, 0), (0, 1), (2, 0)])

    def test_rising_by_number(self):
        rows = [("bell", at) for at in range(98)] + [END]
        program = Program([], [], [[("call", at + 1), END] for at in range(12)] + [rows])
        expected = [(stretch, row) for stretch in range(12) for row in (0, 1)] + [(12, row) for row in range(99)]
        self.assertEqual(reached(program), expected)

    def test_against_the_plain_rule(self):
        for seed in range(300):
            program = random_program(seed)
            self.assertEqual(reached(program), reached_plainly(program))

    def test_the_greatest_programs(self):
        program = greatest_program()
        self.assertEqual(len(reached(program)), 4000)
        self.assertEqual(len(reached(chain(40))), 39 * 3 + 2)
        rows = [("ask", 0, 99 - at, (at + 1) % 100) for at in range(100)]
        self.assertEqual(len(reached(Program([1], [], [rows] * 40))), 100)

    def test_a_new_list_and_the_program_stays(self):
        program = sample()
        before = told_program(program)
        reached(program).clear()
        self.assertEqual(len(reached(program)), 19)
        self.assertEqual(told_program(program), before)

    def test_every_row_that_is_read_is_reached(self):
        for seed in range(150):
            program = random_program(seed)
            found = set(reached(program))
            reader = Reader(program)
            for count in range(100):
                if reader.where() is not None:
                    self.assertIn(reader.where(), found)
                reader.step()


class Trimmed(unittest.TestCase):
    def test_the_sample(self):
        found = trimmed(sample())
        self.assertIsInstance(found, Program)
        self.assertEqual(told_program(found), (MARKS, WIDTHS, [
            [("bell", 10), ("call", 1), ("ask", 0, 3, 5), ("set", 0, 2), ("go", 1), ("bump", 1, 8), ("call", 2),
             ("go", 5), END],
            [("bell", 20), ("call", 2), ("call", 2), ("bell", 21), END],
            [("bump", 0, 2), ("ask", 1, 3, 2), END, ("bell", 0), END],
        ]))

    def test_rows_are_numbered_anew(self):
        program = Program([1], [2], [[
            ("go", 2), ("bell", 1), ("ask", 0, 4, 6), ("bell", 2), ("bump", 0, 8), ("go", 2), ("set", 0, 1), ("go", 4),
            END,
        ]])
        self.assertEqual(told_program(trimmed(program)), ([1], [2], [[
            ("go", 1), ("ask", 0, 2, 4), ("bump", 0, 6), ("go", 1), ("set", 0, 1), ("go", 2), END,
        ]]))

    def test_stretches_are_numbered_anew(self):
        program = Program([], [], [
            [("call", 5), ("call", 2), END], [("call", 3), END], [("call", 4), END], [END], [("bell", 4), END],
            [("bell", 5), END], [END],
        ])
        self.assertEqual(told_program(trimmed(program)), ([], [], [
            [("call", 3), ("call", 1), END], [("call", 2), END], [("bell", 4), END], [("bell", 5), END],
        ]))

    def test_marks_sides_and_counters_keep_their_numbers(self):
        # Each of these numbers would be another one if it were taken for a row or a stretch.
        program = Program([1, 1, 2], [1, 2, 3], [[
            ("go", 2), END, ("bell", 2), ("set", 2, 2), ("bump", 2, 6), END, ("ask", 2, 3, 2),
        ]])
        self.assertEqual(told_program(trimmed(program)), ([1, 1, 2], [1, 2, 3], [[
            ("go", 1), ("bell", 2), ("set", 2, 2), ("bump", 2, 5), END, ("ask", 2, 2, 1),
        ]]))

    def test_all_marks_and_counters_stay_where_no_row_names_them(self):
        program = Program([2, 1, 2], [8, 1], [[END, ("set", 0, 1), ("bump", 1, 0), END]])
        self.assertEqual(told_program(trimmed(program)), ([2, 1, 2], [8, 1], [[END]]))

    def test_where_all_is_reached_nothing_changes(self):
        for program in (chain(5), greatest_program()):
            self.assertEqual(told_program(trimmed(program)), told_program(program))

    def test_the_first_program_stays_and_shares_nothing(self):
        program = sample()
        before = told_program(program)
        other = trimmed(program)
        expected = told_program(other)
        for found in (other.marks(), other.widths(), other.rows(0), program.marks(), program.rows(0)):
            found.clear()
        self.assertEqual((told_program(program), told_program(other)), (before, expected))

    def test_trimmed_once_more_it_is_the_same(self):
        for seed in range(150):
            other = trimmed(random_program(seed))
            self.assertEqual(told_program(trimmed(other)), told_program(other))
            every = [(stretch, row) for stretch in range(other.many()) for row in range(len(other.rows(stretch)))]
            self.assertEqual(reached(other), every)

    def test_it_is_read_like_the_first_one(self):
        for seed in range(300):
            program = random_program(seed)
            other = trimmed(program)
            self.read_alike(program, other)

    def read_alike(self, program, other):
        """Both readings go on in step, each row of the one at the row of the other that it was made of."""
        anew = anew_by_place(program)
        reader, second = Reader(program), Reader(other)
        for count in range(100):
            where, callers, marks, counts, heard = told_reader(reader, program)
            expected = (anew[where], [anew[place] for place in callers], marks, counts, heard)
            self.assertEqual(told_reader(second, other), expected)
            self.assertEqual(reader.step(), second.step())
