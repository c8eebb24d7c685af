"""lazyrails.reader: points 15 and 17 of the document, and points 1 and 2 as far as they touch them."""

import random
import unittest

from lazyrails.errors import NoCounter, NoMark, NoSide, NoValue
from lazyrails.program import Program
from lazyrails.reader import Reader
from tests.programs import (
    FAR, Plain, chain, counting, greatest_program, random_program, sample, told_program, told_reader,
)

END = ("end",)


def reader_of(rows, marks=(1, 2), widths=(1, 2)):
    """A reader of a program whose first stretch has these rows; the second one rings 7."""
    return Reader(Program(list(marks), list(widths), [rows, [("bell", 7), END]]))


class Beginning(unittest.TestCase):
    def test_what_a_new_reader_tells(self):
        reader = Reader(sample())
        self.assertEqual(reader.where(), (0, 0))
        self.assertEqual((reader.callers(), reader.heard()), ([], []))
        self.assertEqual([reader.mark(0), reader.mark(1)], [1, 2])
        self.assertEqual([reader.counter(0), reader.counter(1)], [0, 0])

    def test_without_marks_and_counters(self):
        reader = Reader(Program([], [], [[END]]))
        self.assertRaises(NoMark, reader.mark, 0)
        self.assertRaises(NoMark, reader.turn, 0, 1)
        self.assertRaises(NoCounter, reader.counter, 0)
        self.assertRaises(NoCounter, reader.fill, 0, 0)
        self.assertEqual((reader.where(), reader.step(), reader.where()), ((0, 0), True, None))


class Rows(unittest.TestCase):
    def test_bell(self):
        reader = reader_of([("bell", 0), ("bell", 9999), ("bell", 0), END])
        for read in ([0], [0, 9999], [0, 9999, 0]):
            self.assertIs(reader.step(), True)
            self.assertEqual((reader.heard(), reader.where()), (read, (0, len(read))))

    def test_set(self):
        reader = reader_of([("set", 0, 2), ("set", 1, 2), ("set", 0, 1), END])
        found = []
        while reader.where() != (0, 3):
            reader.step()
            found.append((reader.where(), reader.mark(0), reader.mark(1)))
        self.assertEqual(found, [((0, 1), 2, 2), ((0, 2), 2, 2), ((0, 3), 1, 2)])

    def test_ask(self):
        for mark, side, row in ((0, 1, 2), (0, 2, 3), (1, 1, 2), (1, 2, 3)):
            reader = reader_of([("ask", mark, 2, 3), END, END, END])
            reader.turn(mark, side)
            self.assertIs(reader.step(), True)
            self.assertEqual((reader.where(), reader.mark(mark)), ((0, row), side))

    def test_ask_of_one_row_for_both_sides(self):
        for side in (1, 2):
            reader = reader_of([("ask", 0, 1, 1), ("ask", 1, 1, 1)], marks=(side, side))
            self.assertEqual(reader.go_on(5), 5)
            self.assertEqual(reader.where(), (0, 1))

    def test_bump(self):
        for width in range(1, 9):
            reader = reader_of([("bump", 0, 2), ("go", 0), END], widths=(width,))
            for number in range(1, 2 ** width):
                self.assertEqual((reader.where(), reader.step()), ((0, 0), True))
                self.assertEqual((reader.where(), reader.counter(0)), ((0, 1), number))
                reader.step()
            reader.step()
            self.assertEqual((reader.where(), reader.counter(0)), ((0, 2), 0))

    def test_a_bump_changes_no_other_counter(self):
        reader = reader_of([("bump", 1, 0), ("go", 0)], widths=(1, 1, 1))
        reader.fill(0, 1)
        reader.go_on(1)
        self.assertEqual([reader.counter(at) for at in range(3)], [1, 1, 0])

    def test_a_bump_whose_row_around_is_the_next_or_itself(self):
        reader = reader_of([("bump", 0, 1), END])
        reader.fill(0, 1)
        reader.step()
        self.assertEqual((reader.where(), reader.counter(0)), ((0, 1), 0))
        reader = reader_of([("bump", 0, 0), END])
        reader.fill(0, 1)
        reader.step()
        self.assertEqual((reader.where(), reader.counter(0)), ((0, 0), 0))

    def test_go(self):
        reader = reader_of([("go", 2), END, ("go", 1)])
        self.assertEqual([(reader.step(), reader.where()) for count in range(3)], [
            (True, (0, 2)), (True, (0, 1)), (True, None),
        ])

    def test_a_row_that_goes_to_itself(self):
        reader = reader_of([("go", 0)])
        self.assertEqual(reader.go_on(1000), 1000)
        self.assertEqual(reader.where(), (0, 0))

    def test_call_and_end(self):
        reader = reader_of([("bell", 1), ("call", 1), ("bell", 2), END])
        found = []
        while reader.step():
            found.append((reader.where(), reader.callers(), reader.heard()))
        self.assertEqual(found, [
            ((0, 1), [], [1]),
            ((1, 0), [(0, 2)], [1]),
            ((1, 1), [(0, 2)], [1, 7]),
            ((0, 2), [], [1, 7]),
            ((0, 3), [], [1, 7, 2]),
            (None, [], [1, 7, 2]),
        ])

    def test_calls_within_calls(self):
        program = Program([], [], [
            [("call", 1), END], [("bell", 1), ("call", 3), END], [END], [("call", 4), END], [("bell", 4), END],
        ])
        reader = Reader(program)
        self.assertEqual(reader.go_on(4), 4)
        self.assertEqual((reader.where(), reader.callers()), ((4, 0), [(0, 1), (1, 2), (3, 1)]))
        self.assertEqual(reader.go_on(2), 2)
        self.assertEqual((reader.where(), reader.callers()), ((3, 1), [(0, 1), (1, 2)]))
        self.assertEqual(reader.go_on(9), 3)
        self.assertEqual((reader.where(), reader.callers(), reader.heard()), (None, [], [1, 4]))

    def test_one_stretch_called_from_several_rows(self):
        program = Program([], [], [
            [("call", 2), ("call", 1), ("call", 2), END], [("call", 2), END], [("bell", 2), END],
        ])
        reader = Reader(program)
        found = []
        while reader.step():
            if reader.where() == (2, 0):
                found.append(reader.callers())
        self.assertEqual(found, [[(0, 1)], [(0, 2), (1, 1)], [(0, 3)]])
        self.assertEqual(reader.heard(), [2, 2, 2])

    def test_a_called_stretch_that_never_ends(self):
        reader = Reader(Program([], [], [[("call", 1), END], [("bell", 3), ("go", 0)]]))
        self.assertEqual(reader.go_on(1001), 1001)
        self.assertEqual((reader.where(), reader.callers(), reader.heard()), ((1, 0), [(0, 1)], [3] * 500))


class Going(unittest.TestCase):
    def test_step_behind_the_end_does_nothing(self):
        program = sample()
        reader = Reader(program)
        while reader.step():
            pass
        before = told_reader(reader, program)
        self.assertIsNone(reader.where())
        for count in range(3):
            self.assertIs(reader.step(), False)
            self.assertEqual(reader.go_on(5), 0)
            self.assertEqual(told_reader(reader, program), before)

    def test_go_on_tells_how_many_rows_were_read(self):
        reader = Reader(Program([], [], [[("bell", 1), ("bell", 2), ("bell", 3), END]]))
        self.assertEqual([reader.go_on(most) for most in (-FAR, -1, 0)], [0, 0, 0])
        self.assertEqual(reader.where(), (0, 0))
        self.assertEqual([reader.go_on(1), reader.where()], [1, (0, 1)])
        self.assertEqual([reader.go_on(2), reader.where()], [2, (0, 3)])
        self.assertEqual([reader.go_on(FAR), reader.where()], [1, None])
        self.assertEqual(reader.go_on(FAR), 0)

    def test_go_on_to_the_very_end(self):
        reader = Reader(Program([], [], [[("bell", 1), END]]))
        self.assertEqual((reader.go_on(2), reader.where(), reader.heard()), (2, None, [1]))

    def test_counting(self):
        for width in range(1, 9):
            reader = Reader(counting(width))
            self.assertEqual(reader.go_on(FAR), 3 * 2 ** width)
            self.assertEqual((reader.heard(), reader.counter(0)), ([1] * 2 ** width, 0))

    def test_a_hundred_thousand_rows_of_a_chain_of_forty_stretches(self):
        reader = Reader(chain(40))
        self.assertEqual(reader.go_on(100000), 100000)
        self.assertGreater(len(reader.heard()), 10000)
        self.assertGreater(len(reader.callers()), 20)

    def test_the_greatest_program(self):
        program = greatest_program()
        reader, plain = Reader(program), Plain(program)
        self.agree(reader, plain, program, 5000)

    def test_against_a_plain_reading(self):
        for seed in range(300):
            program = random_program(seed)
            self.agree(Reader(program), Plain(program), program, 120)

    def agree(self, reader, plain, program, most):
        places = plain.places()
        for count in range(most):
            place, callers = next(places)
            self.assertEqual(
                told_reader(reader, program), (place, callers, plain.marks, plain.counts, plain.heard),
            )
            self.assertIs(reader.step(), place is not None)
            if place is None:
                break

    def test_against_a_plain_reading_with_turning_and_filling(self):
        for seed in range(200):
            chance = random.Random(seed)
            program = random_program(seed)
            reader, plain = Reader(program), Plain(program)
            places = plain.places()
            for count in range(60):
                place, callers = next(places)
                for mark in range(len(plain.marks)):
                    plain.marks[mark] = chance.choice((1, 2))
                    self.assertIsNone(reader.turn(mark, plain.marks[mark]))
                for counter, width in enumerate(program.widths()):
                    plain.counts[counter] = chance.randrange(2 ** width)
                    self.assertIsNone(reader.fill(counter, plain.counts[counter]))
                self.assertEqual(
                    told_reader(reader, program), (place, callers, plain.marks, plain.counts, plain.heard),
                )
                self.assertIs(reader.step(), place is not None)


class ByHand(unittest.TestCase):
    def test_turning(self):
        reader = Reader(sample())
        self.assertIsNone(reader.turn(0, 2))
        self.assertEqual((reader.mark(0), reader.mark(1)), (2, 2))
        reader.turn(1, 1)
        reader.turn(0, 2)
        self.assertEqual((reader.mark(0), reader.mark(1)), (2, 1))
        self.assertEqual((reader.where(), reader.heard()), ((0, 0), []))

    def test_filling(self):
        reader = Reader(sample())
        for value in range(8):
            self.assertIsNone(reader.fill(1, value))
            self.assertEqual((reader.counter(0), reader.counter(1)), (0, value))
        reader.fill(0, 1)
        reader.fill(1, 0)
        self.assertEqual((reader.counter(0), reader.counter(1)), (1, 0))

    def test_what_is_read_behind_a_turning_and_a_filling(self):
        reader = reader_of([("ask", 0, 1, 3), ("bell", 1), END, ("bump", 1, 1), END])
        reader.turn(0, 2)
        reader.fill(1, 3)
        self.assertEqual(reader.go_on(9), 4)
        self.assertEqual((reader.heard(), reader.counter(1)), ([1], 0))

    def test_behind_the_end(self):
        reader = Reader(sample())
        while reader.step():
            pass
        heard = reader.heard()
        reader.turn(1, 1)
        reader.fill(1, 7)
        self.assertEqual((reader.mark(1), reader.counter(1)), (1, 7))
        reader.turn(1, 2)
        reader.fill(1, 5)
        self.assertEqual((reader.mark(1), reader.counter(1)), (2, 5))
        self.assertEqual((reader.where(), reader.callers(), reader.heard()), (None, [], heard))
        self.assertIs(reader.step(), False)

    def test_refusals_change_nothing(self):
        program = sample()
        reader = Reader(program)
        reader.go_on(2)
        before = told_reader(reader, program)
        for mark in (-1, 2, FAR, -FAR):
            self.assertRaises(NoMark, reader.mark, mark)
            self.assertRaises(NoMark, reader.turn, mark, 1)
            self.assertRaises(NoMark, reader.turn, mark, 0)
        for side in (0, 3, -1, FAR, -FAR):
            self.assertRaises(NoSide, reader.turn, 0, side)
            self.assertRaises(NoSide, reader.turn, 1, side)
        for counter in (-1, 2, FAR, -FAR):
            self.assertRaises(NoCounter, reader.counter, counter)
            self.assertRaises(NoCounter, reader.fill, counter, 0)
            self.assertRaises(NoCounter, reader.fill, counter, -1)
        for value in (-1, 2, 8, FAR, -FAR):
            self.assertRaises(NoValue, reader.fill, 0, value)
        for value in (-1, 8, 9, FAR, -FAR):
            self.assertRaises(NoValue, reader.fill, 1, value)
        self.assertEqual(told_reader(reader, program), before)

    def test_widest_counter(self):
        reader = reader_of([END], widths=(8,))
        reader.fill(0, 255)
        self.assertEqual(reader.counter(0), 255)
        self.assertRaises(NoValue, reader.fill, 0, 256)


class Apart(unittest.TestCase):
    def test_told_lists_are_new(self):
        program = sample()
        reader = Reader(program)
        reader.go_on(5)
        before = told_reader(reader, program)
        self.assertTrue(reader.callers() and reader.heard())
        for found in (reader.callers(), reader.heard()):
            found.append((9, 9))
            found[0] = 5
            found.clear()
        self.assertEqual(told_reader(reader, program), before)
        kept = (reader.callers(), reader.heard())
        reader.go_on(20)
        self.assertEqual(kept, (before[1], before[4]))

    def test_two_readers_share_nothing(self):
        program = sample()
        one, other = Reader(program), Reader(program)
        one.turn(0, 2)
        one.fill(1, 6)
        one.go_on(12)
        self.assertEqual(told_reader(other, program), told_reader(Reader(program), program))
        other.go_on(12)
        one_told = told_reader(one, program)
        other.turn(1, 1)
        other.fill(0, 0)
        self.assertEqual(told_reader(one, program), one_told)

    def test_the_program_stays(self):
        program = sample()
        before = told_program(program)
        reader = Reader(program)
        reader.turn(0, 2)
        reader.fill(1, 6)
        while reader.step():
            pass
        self.assertEqual(told_program(program), before)
        self.assertEqual(told_reader(Reader(program), program), ((0, 0), [], [1, 2], [0, 0], []))
