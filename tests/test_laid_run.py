"""lazyrails.laying: point 20 of the document, the engine of a laid program beside a reader of the program."""

import itertools
import random
import unittest

from lazyrails.engine import back, held, run
from lazyrails.laying import lay_out
from lazyrails.program import Program
from lazyrails.reach import reached, trimmed
from lazyrails.reader import Reader
from lazyrails.stands import twin
from tests.asking import told
from tests.programs import FAR, chain, counting, greatest_program, random_program, sample

END = ("end",)
FAR_ENOUGH = 2000


def doors_of(laid, program):
    return {
        laid.door(stretch, row): (stretch, row)
        for stretch in range(program.many()) for row in range(len(program.rows(stretch)))
    }


def hand_at(chance, laid, reader, program):
    """Turns and fills some of the marks and counters, the same ones for both."""
    for mark in range(len(program.marks())):
        if chance.randrange(3) == 0:
            side = chance.choice((1, 2))
            laid.turn(mark, side)
            reader.turn(mark, side)
    for counter, width in enumerate(program.widths()):
        if chance.randrange(3) == 0:
            value = chance.choice((0, 2 ** width - 1, chance.randrange(2 ** width)))
            laid.fill(counter, value)
            reader.fill(counter, value)


class Beside(unittest.TestCase):
    """The engine and the reader go on from row to row, and are compared at each."""

    def beside(self, program, rows=60, hand=None):
        """Both go on by so many rows, or to the program's end; tells laid program and reader."""
        laid, reader = lay_out(program), Reader(program)
        doors = doors_of(laid, program)
        for count in range(rows):
            if reader.where() is None:
                break
            if hand is not None:
                hand_at(hand, laid, reader, program)
            self.same(laid, reader, program)
            rung = len(laid.yard.bells())
            self.to_next_door(laid, doors)
            heard = len(reader.heard())
            self.assertTrue(reader.step())
            self.assertEqual(laid.yard.bells()[rung:], reader.heard()[heard:])
        self.same(laid, reader, program)
        return laid, reader

    def same(self, laid, reader, program):
        self.assertEqual(laid.row_here(), reader.where())
        if reader.where() is None:
            self.assertEqual(held(laid.yard), "stop")
            self.assertEqual(laid.yard.kind(laid.yard.engine()[0]), "stop")
        else:
            self.assertEqual(laid.yard.engine(), laid.door(*reader.where()))
            self.assertIsNone(held(laid.yard))
        for mark in range(len(program.marks())):
            self.assertEqual(laid.lies(mark), reader.mark(mark))
        for counter in range(len(program.widths())):
            self.assertEqual(laid.reads(counter), reader.counter(counter))
        self.assertEqual(laid.yard.bells(), reader.heard())

    def to_next_door(self, laid, doors):
        """Runs the engine to the next door or stop, and passes no piece twice."""
        passed = set()
        while True:
            piece = laid.yard.engine()[0]
            self.assertNotIn(piece, passed)
            passed.add(piece)
            self.assertNotEqual(held(laid.yard), "loose")
            if run(laid.yard, 1) == 0 or laid.yard.engine() in doors:
                return


class Programs(Beside):
    def test_the_sample(self):
        laid, reader = self.beside(sample(), FAR_ENOUGH)
        self.assertIsNone(reader.where())
        self.assertEqual(reader.heard()[:4], [10, 20, 21, 20])

    def test_one_stretch_of_one_row(self):
        laid, reader = self.beside(Program([], [], [[END]]))
        self.assertIsNone(reader.where())
        self.assertEqual(laid.yard.bells(), [])

    def test_a_row_that_goes_to_itself(self):
        for rows in (
            [("go", 0)], [("bell", 5), ("go", 1)], [("ask", 0, 0, 0)], [("ask", 0, 0, 1), ("ask", 0, 1, 0)],
            [("bump", 0, 0), ("go", 0)],
        ):
            laid, reader = self.beside(Program([1], [1], [rows]))
            self.assertEqual(len(reader.heard()), 1 if rows[0][0] == "bell" else 0)
            self.assertIsNotNone(reader.where())

    def test_an_ask_whose_two_rows_are_the_same(self):
        for side, row in itertools.product((1, 2), range(3)):
            program = Program([side], [], [[("ask", 0, 2, 2), END, ("bell", 4), ("ask", 0, row, row)]])
            self.beside(program)

    def test_asks_and_sets(self):
        for sides in itertools.product((1, 2), repeat=2):
            program = Program(list(sides), [], [[
                ("ask", 0, 1, 3), ("bell", 1), ("set", 0, 2), ("ask", 1, 4, 6), ("bell", 2), ("set", 1, 2),
                ("set", 0, 1), ("ask", 0, 8, 9), ("set", 0, 2), ("ask", 0, 9, 10), END,
            ]])
            laid, reader = self.beside(program)
            self.assertIsNone(reader.where())

    def test_a_set_to_the_side_to_which_the_mark_lies(self):
        for side, other in itertools.product((1, 2), repeat=2):
            program = Program([side, side], [], [[("set", 0, other), ("set", 0, other), ("ask", 0, 3, 3), END]])
            laid, reader = self.beside(program)
            self.assertEqual((laid.lies(0), laid.lies(1)), (other, side))

    def test_bumps_that_come_round(self):
        for width in range(1, 9):
            laid, reader = self.beside(counting(width), FAR_ENOUGH)
            self.assertEqual((laid.yard.bells(), laid.reads(0)), ([1] * 2 ** width, 0))

    def test_bumps_of_one_counter_in_several_rows(self):
        program = Program([], [2, 1], [[
            ("bump", 0, 4), ("bump", 0, 4), ("bump", 1, 0), ("go", 0), ("bell", 8), ("bump", 1, 7), ("go", 1), END,
        ]])
        laid, reader = self.beside(program, FAR_ENOUGH)
        self.assertIn(8, laid.yard.bells())

    def test_a_bump_whose_rows_are_the_same(self):
        laid, reader = self.beside(Program([], [2], [[("bump", 0, 1), ("bump", 0, 2), ("go", 0)]]))
        self.assertIsNotNone(reader.where())

    def test_calls_within_calls(self):
        laid, reader = self.beside(chain(6), FAR_ENOUGH)
        self.assertEqual(laid.yard.bells(), [6] * 32)

    def test_forty_stretches_that_call_the_next_one(self):
        self.beside(chain(40), 1500)

    def test_one_stretch_called_from_several_rows(self):
        for many in range(1, 12):
            rows = []
            for at in range(many):
                rows += [("bell", at), ("call", 2)]
            program = Program([], [], [rows + [("call", 1), END], rows + [END], [("bell", 100), END]])
            laid, reader = self.beside(program, FAR_ENOUGH)
            self.assertEqual(laid.yard.bells(), [note for at in range(many) for note in (at, 100)] * 2)

    def test_calls_in_any_order_from_a_loop(self):
        for seed in range(20):
            chance = random.Random(seed)
            rows = [("ask", 0, chance.randrange(30), chance.randrange(30)) if chance.randrange(3) else ("bump", 0, 0)
                    for at in range(30)]
            rows = [("call", chance.randrange(1, 4)) if at % 2 else row for at, row in enumerate(rows)]
            program = Program([1], [3], [rows + [("go", 0)]] + [
                [("set", 0, 2), ("call", 3), END], [("set", 0, 1), ("call", 3), ("call", 3), END], [("bell", 3), END],
            ])
            self.beside(program, 200)

    def test_a_stretch_with_several_ends(self):
        program = Program([1], [], [
            [("call", 1), ("set", 0, 2), ("call", 1), END],
            [("ask", 0, 1, 3), ("bell", 1), END, ("bell", 2), END, END],
        ])
        laid, reader = self.beside(program)
        self.assertEqual((laid.yard.bells(), reader.where()), ([1, 2], None))

    def test_several_ends_of_the_program(self):
        for side in (1, 2):
            self.beside(Program([side], [], [[("ask", 0, 1, 3), ("bell", 1), END, ("bell", 2), END]]))

    def test_a_stretch_that_never_ends(self):
        for rows in ([("bell", 3), ("go", 0)], [("go", 0)], [("bell", 3), ("go", 1), END]):
            laid, reader = self.beside(Program([], [], [[("call", 1), END], rows]))
            self.assertEqual(reader.callers(), [(0, 1)])

    def test_rows_and_stretches_that_are_not_reached(self):
        program = Program([1], [1], [
            [("go", 3), ("bell", 1), ("call", 2), ("call", 3), END, ("ask", 0, 0, 1)],
            [("bell", 2), ("call", 3), END],
            [("go", 0)],
            [("bell", 3), END, ("bump", 0, 0), ("go", 0)],
        ])
        laid, reader = self.beside(program)
        self.assertEqual((laid.yard.bells(), reader.where()), ([3], None))

    def test_notes(self):
        laid, reader = self.beside(Program([], [], [[("bell", 0), ("bell", 9999), ("bell", 0), END]]))
        self.assertEqual(laid.yard.bells(), [0, 9999, 0])

    def test_any_programs(self):
        for seed in range(400):
            self.beside(random_program(seed), 50)

    def test_greater_programs(self):
        for seed in range(20):
            self.beside(random_program(seed, 40, 100), 150)

    def test_the_greatest_program(self):
        program = greatest_program()
        laid, reader = self.beside(program, 400)
        self.assertGreater(run(laid.yard, 100000), 20000)
        self.assertGreater(reader.go_on(100000), 4000)
        self.same(laid, reader, program)
        self.assertIsNone(reader.where())


class ByHand(Beside):
    def test_turning_and_filling_at_any_door(self):
        for seed in range(300):
            self.beside(random_program(seed), 40, random.Random(seed))

    def test_at_the_first_door(self):
        program = Program([1], [2], [[("ask", 0, 1, 2), ("bell", 1), ("bump", 0, 4), ("go", 2), ("bell", 2), END]])
        laid, reader = lay_out(program), Reader(program)
        for one in (laid, reader):
            one.turn(0, 2)
            one.fill(0, 3)
        run(laid.yard, FAR)
        reader.go_on(FAR)
        self.same(laid, reader, program)
        self.assertEqual(laid.yard.bells(), [2])

    def test_behind_the_end(self):
        program = sample()
        laid, reader = self.beside(program, FAR_ENOUGH)
        for one in (laid, reader):
            one.turn(0, 1)
            one.turn(1, 1)
            one.fill(1, 6)
        self.same(laid, reader, program)
        self.assertEqual((laid.lies(1), laid.reads(1)), (1, 6))
        self.assertEqual(run(laid.yard, 5), 0)


class Running(Beside):
    def test_a_program_that_never_ends_never_stops_the_engine(self):
        for rows in ([("go", 0)], [("bell", 1), ("go", 0)], [("bump", 0, 0), ("call", 1), ("go", 0)]):
            laid = lay_out(Program([1], [3], [rows, [("set", 0, 2), END]]))
            self.assertEqual(run(laid.yard, 20000), 20000)
            self.assertIsNone(held(laid.yard))

    def test_a_program_that_ends_stops_it(self):
        program = counting(8)
        laid, reader = lay_out(program), Reader(program)
        done = run(laid.yard, FAR)
        reader.go_on(FAR)
        self.same(laid, reader, program)
        self.assertEqual((run(laid.yard, FAR), laid.yard.steps()), (0, done))

    def test_steps_taken_back_and_done_again(self):
        for seed in range(60):
            program = random_program(seed)
            laid = lay_out(program)
            first = told(laid.yard)
            done = run(laid.yard, 70)
            then = told(laid.yard)
            self.assertEqual(back(laid.yard, done), done)
            self.assertEqual(told(laid.yard), first)
            run(laid.yard, done)
            self.assertEqual(told(laid.yard), then)

    def test_a_twin_of_its_yard_runs_as_it_does(self):
        for seed in range(60):
            laid = lay_out(random_program(seed))
            run(laid.yard, 17)
            other = twin(laid.yard)
            self.assertEqual(run(other, 60), run(laid.yard, 60))
            self.assertEqual((other.engine(), other.bells()), (laid.yard.engine(), laid.yard.bells()))

    def test_the_trimmed_program_rings_the_same(self):
        for seed in range(100):
            program = random_program(seed)
            laid, other = lay_out(program), lay_out(trimmed(program))
            run(laid.yard, 800)
            run(other.yard, 800)
            many = min(len(laid.yard.bells()), len(other.yard.bells()))
            self.assertEqual(laid.yard.bells()[:many], other.yard.bells()[:many])
            self.assertEqual(held(laid.yard), held(other.yard))

    def test_no_door_that_is_not_reached(self):
        for seed in range(60):
            program = random_program(seed)
            laid = lay_out(program)
            found = set(reached(program))
            for count in range(200):
                if laid.row_here() is not None:
                    self.assertIn(laid.row_here(), found)
                run(laid.yard, 1)
