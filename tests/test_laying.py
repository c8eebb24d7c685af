"""lazyrails.laying: points 19 and 21 of the document, what Laid tells and refuses, and points 1, 2 and 9 for it."""

import itertools
import unittest

from lazyrails.engine import back, run
from lazyrails.errors import NoCounter, NoMark, NoRow, NoSide, NoStretch, NoValue
from lazyrails.laying import Laid, lay_out
from lazyrails.program import Program
from lazyrails.yard import Yard
from tests.asking import told
from tests.programs import (
    FAR, MARKS, STRETCHES, WIDTHS, chain, counting, greatest_program, random_program, sample, told_program,
)

END = ("end",)


def places(program):
    return [(stretch, row) for stretch in range(program.many()) for row in range(len(program.rows(stretch)))]


def allowed(program):
    """The pieces that point 21 allows."""
    many = 10 * program.many()
    for stretch, row in places(program):
        word, *parts = program.rows(stretch)[row]
        many += 10
        if word == "bump":
            many += 2 * program.widths()[parts[0]]
    return many


def told_laid(laid, program):
    """All that can be asked of a laid program."""
    return (
        {place: laid.door(*place) for place in places(program)},
        laid.row_here(),
        [(laid.mark_rod(mark), laid.lies(mark)) for mark in range(len(program.marks()))],
        [(laid.bit_rods(counter), laid.reads(counter)) for counter in range(len(program.widths()))],
        told(laid.yard),
    )


def programs():
    yield sample()
    yield Program([], [], [[END]])
    yield Program([2], [], [[("go", 0)]])
    yield Program([1], [1], [[END, ("ask", 0, 1, 1)], [END], [("bell", 1), ("go", 0)]])
    yield counting(8)
    yield chain(40)
    for seed in range(100):
        yield random_program(seed)


class Doors(unittest.TestCase):
    def test_a_door_for_each_row_no_two_the_same_and_none_of_a_stop(self):
        for program in programs():
            laid = lay_out(program)
            doors = [laid.door(stretch, row) for stretch, row in places(program)]
            self.assertEqual(len(set(doors)), len(doors))
            for door in doors:
                self.assertIsInstance(door, tuple)
                # Refused where the end is not there.
                laid.yard.mate(door)
                self.assertNotEqual(laid.yard.kind(door[0]), "stop")

    def test_no_such_door(self):
        laid = lay_out(sample())
        for stretch in (-1, -4, 4, FAR, -FAR):
            self.assertRaises(NoStretch, laid.door, stretch, 0)
            self.assertRaises(NoStretch, laid.door, stretch, 99)
        for stretch, rows in enumerate(STRETCHES):
            for row in (-1, -len(rows), len(rows), FAR, -FAR):
                self.assertRaises(NoRow, laid.door, stretch, row)

    def test_row_here(self):
        for program in itertools.islice(programs(), 12):
            laid = lay_out(program)
            for stretch, row in places(program):
                laid.yard.put(laid.door(stretch, row))
                self.assertEqual(laid.row_here(), (stretch, row))
            self.assertIsInstance(laid.row_here(), tuple)

    def test_no_row_here(self):
        laid = lay_out(sample())
        doors = {laid.door(stretch, row) for stretch, row in places(sample())}
        laid.yard.off()
        self.assertIsNone(laid.row_here())
        for piece in laid.yard.pieces():
            if (piece, 0) not in doors:
                laid.yard.put((piece, 0))
                self.assertIsNone(laid.row_here())


class Beginning(unittest.TestCase):
    def test_engine_notes_and_trail(self):
        for program in programs():
            laid = lay_out(program)
            self.assertIsInstance(laid, Laid)
            self.assertIsInstance(laid.yard, Yard)
            self.assertEqual(laid.yard.engine(), laid.door(0, 0))
            self.assertEqual(laid.row_here(), (0, 0))
            self.assertEqual((laid.yard.bells(), laid.yard.steps()), ([], 0))

    def test_marks_and_counters(self):
        for program in programs():
            laid = lay_out(program)
            marks, widths = program.marks(), program.widths()
            self.assertEqual([laid.lies(mark) for mark in range(len(marks))], marks)
            self.assertEqual([laid.yard.side(laid.mark_rod(mark)) for mark in range(len(marks))], marks)
            self.assertEqual([laid.reads(counter) for counter in range(len(widths))], [0] * len(widths))
            self.assertEqual([len(laid.bit_rods(counter)) for counter in range(len(widths))], widths)
            for counter in range(len(widths)):
                self.assertEqual({laid.yard.side(rod) for rod in laid.bit_rods(counter)}, {1})

    def test_all_rods_of_marks_and_bits_are_different(self):
        for program in programs():
            laid = lay_out(program)
            rods = [laid.mark_rod(mark) for mark in range(len(program.marks()))]
            for counter in range(len(program.widths())):
                rods += laid.bit_rods(counter)
            self.assertEqual(len(set(rods)), len(rods))
            self.assertLessEqual(set(rods), set(laid.yard.rods()))

    def test_marks_and_counters_that_no_row_names(self):
        program = Program([2, 1, 2], [1, 8], [[END]])
        laid = lay_out(program)
        self.assertEqual([laid.lies(mark) for mark in range(3)], [2, 1, 2])
        laid.turn(1, 2)
        laid.fill(1, 170)
        self.assertEqual(([laid.lies(mark) for mark in range(3)], laid.reads(0), laid.reads(1)), ([2, 2, 2], 0, 170))

    def test_without_marks_and_counters(self):
        laid = lay_out(Program([], [], [[END]]))
        for deed in (laid.mark_rod, laid.lies):
            self.assertRaises(NoMark, deed, 0)
        for deed in (laid.bit_rods, laid.reads):
            self.assertRaises(NoCounter, deed, 0)
        self.assertRaises(NoMark, laid.turn, 0, 1)
        self.assertRaises(NoCounter, laid.fill, 0, 0)

    def test_the_program_stays(self):
        program = sample()
        laid = lay_out(program)
        laid.turn(0, 2)
        run(laid.yard, 100)
        self.assertEqual(told_program(program), (MARKS, WIDTHS, STRETCHES))


class Pieces(unittest.TestCase):
    def test_as_many_as_are_allowed(self):
        for program in programs():
            self.assertLessEqual(len(lay_out(program).yard.pieces()), allowed(program))

    def test_rows_to_which_all_others_go(self):
        rows = [("bell", 1)] + [("ask", 0, 0, 0) for row in range(99)]
        program = Program([1], [], [rows])
        self.assertLessEqual(len(lay_out(program).yard.pieces()), allowed(program))

    def test_each_stretch_once_however_often_it_is_called(self):
        program = chain(40)
        self.assertLessEqual(len(lay_out(program).yard.pieces()), 10 * (39 * 3 + 2) + 10 * 40)

    def test_one_stretch_called_from_everywhere(self):
        rows = [("call", 39)] * 99 + [END]
        program = Program([], [], [rows] * 39 + [[("bell", 1), END]])
        laid = lay_out(program)
        self.assertLessEqual(len(laid.yard.pieces()), allowed(program))
        bells = [piece for piece in laid.yard.pieces() if laid.yard.kind(piece) == "bell"]
        self.assertEqual(len(bells), 1)

    def test_bumps(self):
        for width in range(1, 9):
            program = Program([], [width], [[("bump", 0, 0)] * 99 + [END]])
            self.assertLessEqual(len(lay_out(program).yard.pieces()), 99 * 2 * width + 10 * 100 + 10)

    def test_the_greatest_program(self):
        program = greatest_program()
        laid = lay_out(program)
        self.assertLessEqual(len(laid.yard.pieces()), allowed(program))
        self.assertEqual(len({laid.door(stretch, row) for stretch, row in places(program)}), 4000)


class ByHand(unittest.TestCase):
    def test_turning(self):
        laid = lay_out(sample())
        for mark, side, lying in ((0, 2, [2, 2]), (1, 1, [2, 1]), (1, 1, [2, 1]), (0, 1, [1, 1])):
            self.assertIsNone(laid.turn(mark, side))
            self.assertEqual([laid.lies(0), laid.lies(1)], lying)
            self.assertEqual([laid.yard.side(laid.mark_rod(0)), laid.yard.side(laid.mark_rod(1))], lying)
            self.assertEqual([laid.reads(0), laid.reads(1)], [0, 0])

    def test_filling(self):
        program = Program([1], list(range(1, 9)), [[END]])
        laid = lay_out(program)
        for counter, width in enumerate(program.widths()):
            for value in range(2 ** width):
                self.assertIsNone(laid.fill(counter, value))
                self.assertEqual(laid.reads(counter), value)
                sides = [laid.yard.side(rod) for rod in laid.bit_rods(counter)]
                self.assertEqual(sum(2 ** at for at, side in enumerate(sides) if side == 2), value)
        self.assertEqual([laid.reads(counter) for counter in range(8)], [2 ** width - 1 for width in range(1, 9)])
        self.assertEqual(laid.lies(0), 1)

    def test_rods_thrown_by_hand_are_told(self):
        laid = lay_out(sample())
        laid.yard.throw(laid.mark_rod(0), 2)
        for rod, number in zip(laid.bit_rods(1), (1, 3, 7)):
            laid.yard.throw(rod, 2)
            self.assertEqual(laid.reads(1), number)
        self.assertEqual((laid.lies(0), laid.reads(0)), (2, 0))

    def test_each_one_empties_the_trail_and_leaves_the_notes(self):
        for deed in (
            lambda laid: laid.turn(0, 2), lambda laid: laid.turn(0, 1), lambda laid: laid.turn(1, 2),
            lambda laid: laid.fill(1, 0), lambda laid: laid.fill(1, 5), lambda laid: laid.fill(0, 1),
        ):
            laid = lay_out(sample())
            run(laid.yard, 3)
            self.assertEqual((laid.yard.steps(), laid.yard.bells()), (3, [10]))
            engine = laid.yard.engine()
            deed(laid)
            self.assertEqual((laid.yard.steps(), laid.yard.bells(), laid.yard.engine()), (0, [10], engine))
            self.assertEqual(back(laid.yard, 9), 0)

    def test_they_touch_no_other_rod(self):
        laid = lay_out(sample())
        before = told(laid.yard)
        laid.turn(0, 2)
        before["sides"][laid.mark_rod(0)] = 2
        self.assertEqual(told(laid.yard), before)
        laid.fill(1, 5)
        for rod, side in zip(laid.bit_rods(1), (2, 1, 2)):
            before["sides"][rod] = side
        self.assertEqual(told(laid.yard), before)

    def test_asking_leaves_all_as_it_is(self):
        program = sample()
        laid = lay_out(program)
        run(laid.yard, 7)
        before = told_laid(laid, program)
        self.assertEqual(told_laid(laid, program), before)
        self.assertEqual(laid.yard.steps(), 7)


class Refused(unittest.TestCase):
    def test_refusals_change_nothing(self):
        program = sample()
        laid = lay_out(program)
        run(laid.yard, 6)
        before = told_laid(laid, program)
        for mark in (-1, 2, FAR, -FAR):
            self.assertRaises(NoMark, laid.mark_rod, mark)
            self.assertRaises(NoMark, laid.lies, mark)
            self.assertRaises(NoMark, laid.turn, mark, 1)
            self.assertRaises(NoMark, laid.turn, mark, 3)
        for mark, side in itertools.product((0, 1), (0, 3, -1, FAR, -FAR)):
            self.assertRaises(NoSide, laid.turn, mark, side)
        for counter in (-1, 2, FAR, -FAR):
            self.assertRaises(NoCounter, laid.bit_rods, counter)
            self.assertRaises(NoCounter, laid.reads, counter)
            self.assertRaises(NoCounter, laid.fill, counter, 0)
            self.assertRaises(NoCounter, laid.fill, counter, -1)
        for value in (-1, 2, 3, 8, FAR, -FAR):
            self.assertRaises(NoValue, laid.fill, 0, value)
        for value in (-1, 8, 9, FAR, -FAR):
            self.assertRaises(NoValue, laid.fill, 1, value)
        self.assertRaises(NoStretch, laid.door, 4, 0)
        self.assertRaises(NoRow, laid.door, 0, 11)
        self.assertEqual(told_laid(laid, program), before)
        self.assertEqual(laid.yard.steps(), 6)

    def test_the_widest_counter(self):
        laid = lay_out(Program([], [8], [[END]]))
        laid.fill(0, 255)
        self.assertRaises(NoValue, laid.fill, 0, 256)
        self.assertEqual(laid.reads(0), 255)


class Apart(unittest.TestCase):
    def test_bit_rods_are_a_new_list(self):
        laid = lay_out(sample())
        rods = laid.bit_rods(1)
        self.assertIsInstance(rods, list)
        laid.bit_rods(1).clear()
        laid.bit_rods(1).append(0)
        self.assertEqual(laid.bit_rods(1), rods)
        laid.fill(1, 6)
        self.assertEqual(laid.reads(1), 6)

    def test_two_of_one_program_share_nothing(self):
        program = sample()
        one, other = lay_out(program), lay_out(program)
        fresh = told_laid(lay_out(program), program)
        self.assertEqual(told_laid(other, program), fresh)
        one.turn(0, 2)
        one.fill(1, 6)
        run(one.yard, 40)
        one.yard.lay("line")
        self.assertEqual(told_laid(other, program), fresh)
        before = told_laid(one, program)
        other.turn(1, 1)
        other.yard.off()
        self.assertEqual(told_laid(one, program), before)
