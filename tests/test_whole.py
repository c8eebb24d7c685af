"""The whole document: yards that came by a twin, a shelf or a text, and programs that came by a text or a trimming."""

import unittest

from lazyrails.engine import back, held, run
from lazyrails.follow import follow
from lazyrails.gadgets import doorway, fan, merge, tally
from lazyrails.laying import lay_out
from lazyrails.points import ends_of
from lazyrails.program import Program
from lazyrails.programtext import read_program, write_program
from lazyrails.reach import reached, trimmed
from lazyrails.reader import Reader
from lazyrails.rings import fate
from lazyrails.stands import Shelf, twin
from lazyrails.yard import Yard
from lazyrails.yardtext import read_yard, write_yard
from tests.asking import numbers_to_come, told, told_without_trail
from tests.building import close, out_of
from tests.plainly import fate_plainly, random_yard
from tests.programs import anew_by_place, chain, counting, random_program, sample, told_program


def by_shelf(yard):
    shelf = Shelf()
    shelf.keep(Yard())
    return shelf.again(shelf.keep(yard))


def by_text(yard):
    return read_yard(write_yard(yard))


WAYS = (twin, by_shelf, by_text, lambda yard: by_text(twin(by_shelf(by_text(yard)))))


def worn(seed):
    """A yard with lifted pieces and steps in its trail."""
    yard = random_yard(seed)
    for piece in yard.pieces()[::4]:
        if piece != yard.engine()[0]:
            for end in range(ends_of(yard.kind(piece))):
                if yard.mate((piece, end)) is not None:
                    yard.unlink((piece, end))
            yard.lift(piece)
    run(yard, 1 + seed % 6)
    return yard


class YardsLikeAnyOther(unittest.TestCase):
    def pairs(self, many):
        """Yards that are alike but for their trails, the second one come by one of the ways."""
        for seed in range(many):
            for way in WAYS:
                yard = worn(seed)
                yield yard, way(yard)

    def test_what_they_tell(self):
        for yard, other in self.pairs(30):
            self.assertEqual(told(other), told_without_trail(yard))
            self.assertEqual(write_yard(other), write_yard(yard))
            self.assertEqual(numbers_to_come(other), numbers_to_come(yard))

    def test_they_run_and_take_back(self):
        for yard, other in self.pairs(40):
            before = told(other)
            done = run(other, 30)
            self.assertEqual((done, held(other)), (run(yard, 30), held(yard)))
            self.assertEqual(told_without_trail(other), told_without_trail(yard))
            self.assertEqual(other.steps(), done)
            self.assertEqual(back(other, 10 ** 39), done)
            self.assertEqual(told(other), before)

    def test_their_fate(self):
        for yard, other in self.pairs(40):
            for most in (0, 3, 200):
                self.assertEqual(fate(other, most), fate(yard, most))
                self.assertEqual(fate(other, most), fate_plainly(yard, most))

    def test_builders(self):
        for yard, other in self.pairs(15):
            for one in (yard, other):
                lines = [one.lay("line") for count in range(4)]
                merge(one, [(line, 1) for line in lines[:3]], (lines[3], 0))
            ends = [(fan(one, 5), doorway(one), tally(one, [one.new_rod(), one.new_rod()])) for one in (yard, other)]
            self.assertEqual(ends[0], ends[1])
            self.assertEqual(told(other), told(yard))
            self.assertEqual(write_yard(other), write_yard(yard))

    def test_what_is_built_in_them_works(self):
        for way in WAYS:
            yard = way(worn(3))
            root, leaves = fan(yard, 4)
            rods = [yard.new_rod(), yard.new_rod()]
            into, done, around = tally(yard, rods)
            # Once more another yard, with all that was built.
            yard = way(yard)
            stops = close(yard, [root, into, done, around] + leaves)
            for leaf in leaves[::-1]:
                self.assertEqual(out_of(yard, stops, leaf), root)
                self.assertEqual(out_of(yard, stops, root), leaf)
            self.assertEqual([out_of(yard, stops, into) for count in range(5)], [done, done, done, around, done])

    def test_they_are_kept_and_written_again(self):
        for yard, other in self.pairs(15):
            shelf = Shelf()
            number = shelf.keep(other)
            text = write_yard(other)
            run(other, 5)
            other.off()
            self.assertEqual(told(shelf.again(number)), told_without_trail(yard))
            self.assertEqual(write_yard(shelf.again(number)), text)
            self.assertEqual(told(read_yard(text)), told_without_trail(yard))

    def test_they_share_nothing(self):
        for yard, other in self.pairs(15):
            before = told(yard)
            other.lay("bell", 7)
            other.new_rod(2)
            for rod in other.rods():
                other.throw(rod, 2)
            run(other, 5)
            other.off()
            self.assertEqual(told(yard), before)


class ProgramsLikeAnyOther(unittest.TestCase):
    def programs(self):
        return [sample(), chain(5), counting(3)] + [random_program(seed) for seed in range(80)]

    def test_written_and_read_they_are_the_same(self):
        for program in self.programs():
            other = read_program(write_program(program))
            self.assertEqual(told_program(other), told_program(program))
            self.assertEqual(reached(other), reached(program))
            self.assertEqual(told_program(trimmed(other)), told_program(trimmed(program)))

    def test_written_read_and_laid_they_run_the_same(self):
        for program in self.programs():
            laid, other = lay_out(program), lay_out(read_program(write_program(program)))
            self.assertEqual(follow(other, 60), follow(laid, 60))
            self.assertEqual((other.yard.bells(), held(other.yard)), (laid.yard.bells(), held(laid.yard)))

    def test_trimmed_written_read_and_laid(self):
        for program in self.programs():
            anew = anew_by_place(program)
            laid, other = lay_out(program), lay_out(read_program(write_program(trimmed(program))))
            self.assertEqual(follow(other, 60), [anew[place] for place in follow(laid, 60)])
            self.assertEqual((other.yard.bells(), held(other.yard)), (laid.yard.bells(), held(laid.yard)))

    def test_a_laid_yard_by_any_way_runs_as_the_reading(self):
        for seed in range(40):
            program = random_program(seed)
            reader = Reader(program)
            laid = lay_out(program)
            for way in WAYS:
                run(laid.yard, 5)
                other = way(laid.yard)
                run(other, 100)
                reader.go_on(100)
                many = min(len(other.bells()), len(reader.heard()))
                self.assertEqual(other.bells()[:many], reader.heard()[:many])

    def test_the_fate_of_a_laid_yard(self):
        self.assertEqual(fate(lay_out(Program([], [], [[("end",)]])).yard, 100)[:2], ("held", "stop"))
        self.assertEqual(fate(lay_out(Program([], [], [[("go", 0)]])).yard, 100)[:2], ("round", 0))
        laid = lay_out(counting(3))
        why = fate(laid.yard, 10000)
        self.assertEqual(why[:2], ("held", "stop"))
        self.assertEqual((laid.yard.steps(), run(laid.yard, 10000)), (0, why[2]))
        program = Program([], [3], [[("bump", 0, 0), ("go", 0)]])
        laid = lay_out(program)
        why, begin, length = fate(laid.yard, 10000)
        self.assertEqual((why, begin), ("round", 0))
        run(laid.yard, length)
        self.assertEqual((laid.row_here(), laid.reads(0)), ((0, 0), 0))
