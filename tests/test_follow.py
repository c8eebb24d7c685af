"""lazyrails.follow: points 19 and 20 of the document, from door to door."""

import random
import unittest

from lazyrails.engine import back, held, run
from lazyrails.follow import follow, next_row
from lazyrails.laying import lay_out
from lazyrails.program import Program
from lazyrails.reader import Reader
from tests.asking import told
from tests.programs import FAR, chain, counting, greatest_program, random_program, sample

END = ("end",)


def rows_read(reader, most):
    """The rows to which a reading comes, at most so many."""
    found = []
    while len(found) < most and reader.step() and reader.where() is not None:
        found.append(reader.where())
    return found


class NextRow(unittest.TestCase):
    def test_from_door_to_door(self):
        laid = lay_out(Program([1], [1], [[("bell", 5), ("call", 1), ("ask", 0, 1, 3), END], [("set", 0, 2), END]]))
        found = [next_row(laid) for count in range(7)]
        self.assertEqual(found, [(0, 1), (1, 0), (1, 1), (0, 2), (0, 3), None, None])
        self.assertEqual((held(laid.yard), laid.yard.bells()), ("stop", [5]))

    def test_a_tuple_and_the_engine_stands_at_that_door(self):
        for seed in range(60):
            laid = lay_out(random_program(seed))
            for count in range(30):
                row = next_row(laid)
                self.assertEqual(laid.row_here(), row)
                if row is None:
                    self.assertEqual(held(laid.yard), "stop")
                    break
                self.assertIsInstance(row, tuple)
                self.assertEqual(laid.yard.engine(), laid.door(*row))

    def test_a_row_that_goes_to_itself(self):
        for rows in ([("go", 0)], [("ask", 0, 0, 0)]):
            laid = lay_out(Program([1], [], [rows]))
            for count in range(5):
                steps = laid.yard.steps()
                self.assertEqual(next_row(laid), (0, 0))
                self.assertGreater(laid.yard.steps(), steps)

    def test_at_the_end_nothing_is_done(self):
        laid = lay_out(Program([], [], [[END]]))
        self.assertIsNone(next_row(laid))
        before = told(laid.yard)
        self.assertIsNone(next_row(laid))
        self.assertEqual(told(laid.yard), before)

    def test_from_between_two_doors(self):
        for seed in range(60):
            program = random_program(seed)
            laid, reader = lay_out(program), Reader(program)
            while reader.where() is not None and laid.yard.steps() < 60:
                run(laid.yard, 1)
                reader.step()
                between = laid.row_here() is None
                self.assertEqual(next_row(laid) if between else laid.row_here(), reader.where())

    def test_behind_steps_taken_back(self):
        for seed in range(60):
            chance = random.Random(seed)
            laid = lay_out(random_program(seed))
            # For each number of steps the row to which one comes next from there.
            nexts = []
            while held(laid.yard) is None and len(nexts) < 80:
                row = next_row(laid)
                nexts += [row] * (laid.yard.steps() - len(nexts))
            for count in range(20):
                back(laid.yard, chance.randrange(1, 9))
                expected = nexts[laid.yard.steps()]
                self.assertEqual(next_row(laid), expected)


class Follow(unittest.TestCase):
    def test_the_rows_in_turn(self):
        laid = lay_out(Program([], [], [[("call", 1), ("call", 1), END], [("bell", 1), END]]))
        self.assertEqual(follow(laid, FAR), [(1, 0), (1, 1), (0, 1), (1, 0), (1, 1), (0, 2)])
        self.assertEqual((held(laid.yard), laid.yard.bells()), ("stop", [1, 1]))
        self.assertEqual(follow(laid, FAR), [])

    def test_at_most_so_many(self):
        for most in range(1, 12):
            program = sample()
            laid, reader = lay_out(program), Reader(program)
            self.assertEqual(follow(laid, most), rows_read(reader, most))
            self.assertEqual(laid.row_here(), reader.where())
            self.assertEqual(laid.yard.bells(), reader.heard())

    def test_none_for_a_number_below_one(self):
        laid = lay_out(sample())
        run(laid.yard, 4)
        before = told(laid.yard)
        for most in (0, -1, -FAR):
            self.assertEqual(follow(laid, most), [])
            self.assertEqual(told(laid.yard), before)

    def test_the_first_door_is_not_told(self):
        laid = lay_out(Program([], [], [[END]]))
        self.assertEqual(follow(laid, 5), [])
        laid = lay_out(Program([], [], [[("bell", 1), END]]))
        self.assertEqual(follow(laid, 5), [(0, 1)])

    def test_it_ends_where_it_told_so_many_and_not_later(self):
        laid = lay_out(Program([], [], [[("bell", 1), ("bell", 2), END]]))
        self.assertEqual((follow(laid, 2), laid.row_here(), held(laid.yard)), ([(0, 1), (0, 2)], (0, 2), None))
        self.assertEqual((follow(laid, 1), held(laid.yard)), ([], "stop"))

    def test_as_a_reading_comes_to_them(self):
        for seed in range(300):
            program = random_program(seed)
            laid, reader = lay_out(program), Reader(program)
            for most in (1, 3, 40):
                self.assertEqual(follow(laid, most), rows_read(reader, most))
            self.assertEqual(laid.yard.bells(), reader.heard())

    def test_behind_turning_and_filling_at_doors(self):
        for seed in range(200):
            chance = random.Random(seed)
            program = random_program(seed)
            laid, reader = lay_out(program), Reader(program)
            for count in range(12):
                for one in range(len(program.marks())):
                    side = chance.choice((1, 2))
                    laid.turn(one, side)
                    reader.turn(one, side)
                for one, width in enumerate(program.widths()):
                    value = chance.randrange(2 ** width)
                    laid.fill(one, value)
                    reader.fill(one, value)
                most = chance.randrange(1, 5)
                self.assertEqual(follow(laid, most), rows_read(reader, most))
                self.assertEqual([laid.lies(one) for one in range(len(program.marks()))],
                                 [reader.mark(one) for one in range(len(program.marks()))])

    def test_turning_behind_the_end_and_taking_back_ahead_of_it(self):
        laid = lay_out(Program([1], [], [[("ask", 0, 1, 2), ("bell", 1), END]]))
        self.assertEqual(follow(laid, 9), [(0, 1), (0, 2)])
        laid.turn(0, 2)
        self.assertEqual(follow(laid, 9), [])
        self.assertIsNone(next_row(laid))
        laid = lay_out(Program([1], [], [[("ask", 0, 1, 2), ("bell", 1), END]]))
        follow(laid, 9)
        back(laid.yard, FAR)
        laid.turn(0, 2)
        self.assertEqual((follow(laid, 9), laid.yard.bells()), ([(0, 2)], []))

    def test_a_new_list(self):
        laid = lay_out(chain(3))
        found = follow(laid, 3)
        self.assertIsInstance(found, list)
        kept = list(found)
        later = follow(laid, 3)
        found.clear()
        self.assertEqual(len(kept + later + follow(laid, FAR)), len(follow(lay_out(chain(3)), FAR)))

    def test_long_ways(self):
        program = greatest_program()
        self.assertEqual(follow(lay_out(program), 3000), rows_read(Reader(program), 3000))
        self.assertEqual(len(follow(lay_out(counting(8)), FAR)), 3 * 256 - 1)
        self.assertEqual(follow(lay_out(Program([], [], [[("go", 0)]])), 20000), [(0, 0)] * 20000)
