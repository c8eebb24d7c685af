"""lazyrails.gadgets: points 12 and 14 of the document: tally."""

import random
import unittest

from lazyrails.engine import run
from lazyrails.gadgets import merge, tally
from lazyrails.yard import Yard
from tests.asking import told
from tests.building import close, out_of, sides, was_there, worn_yard


def reading(yard, rods):
    number, worth = 0, 1
    for rod in rods:
        if yard.side(rod) == 2:
            number += worth
        worth *= 2
    return number


def throw_to(yard, rods, number):
    for at, rod in enumerate(rods):
        yard.throw(rod, 2 if number >> at & 1 else 1)


def new_rods(yard, many):
    return [yard.new_rod() for count in range(many)]


class Tally(unittest.TestCase):
    def test_ends_and_pieces(self):
        for many in range(1, 21):
            yard = worn_yard()
            rods = new_rods(yard, many)
            pieces, every = yard.pieces(), yard.rods()
            run(yard, 1)
            before = was_there(yard, pieces, every)
            handed = list(rods)
            ends = tally(yard, handed)
            self.assertEqual(handed, rods)
            self.assertIsInstance(ends, tuple)
            self.assertEqual(len(set(ends)), 3)
            self.assertEqual([yard.mate(end) for end in ends], [None, None, None])
            self.assertFalse({piece for piece, end in ends} & set(pieces))
            self.assertLessEqual(len(yard.pieces()) - len(pieces), 3 * many + 2)
            self.assertEqual(was_there(yard, pieces, every), before)
            self.assertEqual((yard.steps(), yard.bells()), (0, [5, 5]))

    def test_from_every_number(self):
        for many in range(1, 7):
            yard = worn_yard()
            rods = new_rods(yard, many)
            into, done, around = tally(yard, rods)
            stops = close(yard, (into, done, around))
            others = [rod for rod in yard.rods() if rod not in rods]
            before = [yard.side(rod) for rod in others]
            for number in range(2 ** many):
                throw_to(yard, rods, number)
                greatest = number == 2 ** many - 1
                self.assertEqual(out_of(yard, stops, into), around if greatest else done)
                self.assertEqual(reading(yard, rods), 0 if greatest else number + 1)
                self.assertEqual([yard.side(rod) for rod in others], before)

    def test_on_and_on(self):
        yard = Yard()
        rods = new_rods(yard, 4)
        into, done, around = tally(yard, rods)
        stops = close(yard, (into, done, around))
        for number in range(1, 40):
            self.assertEqual(out_of(yard, stops, into), done if number % 16 else around)
            self.assertEqual(reading(yard, rods), number % 16)

    def test_one_rod(self):
        yard = Yard()
        rod = yard.new_rod()
        into, done, around = tally(yard, [rod])
        stops = close(yard, (into, done, around))
        self.assertEqual((out_of(yard, stops, into), yard.side(rod)), (done, 2))
        self.assertEqual((out_of(yard, stops, into), yard.side(rod)), (around, 1))

    def test_the_first_rod_is_worth_one_whatever_its_number(self):
        chance = random.Random(14)
        for count in range(30):
            yard = Yard()
            rods = new_rods(yard, 6)
            chance.shuffle(rods)
            rods = rods[:chance.randrange(1, 7)]
            number = chance.randrange(2 ** len(rods))
            throw_to(yard, rods, number)
            into, done, around = tally(yard, rods)
            self.assertEqual(reading(yard, rods), number)
            stops = close(yard, (into, done, around))
            for often in range(9):
                number += 1
                self.assertEqual(out_of(yard, stops, into), done if number % 2 ** len(rods) else around)
                self.assertEqual(reading(yard, rods), number % 2 ** len(rods))

    def test_rods_that_points_sit_on(self):
        yard = Yard()
        points = [yard.lay(kind) for kind in ("still", "lazy", "turning")]
        rods = [yard.rod(point) for point in points]
        into, done, around = tally(yard, rods)
        stops = close(yard, (into, done, around))
        for number in range(1, 10):
            self.assertEqual(out_of(yard, stops, into), done if number % 8 else around)
            self.assertEqual(reading(yard, rods), number % 8)

    def test_several_tallies_on_the_same_rods(self):
        yard = Yard()
        rods = new_rods(yard, 3)
        tallies = [tally(yard, rods) for count in range(3)]
        self.assertEqual(len({end for ends in tallies for end in ends}), 9)
        stops = close(yard, [end for ends in tallies for end in ends])
        chance = random.Random(3)
        for number in range(1, 50):
            into, done, around = chance.choice(tallies)
            self.assertEqual(out_of(yard, stops, into), done if number % 8 else around)
            self.assertEqual(reading(yard, rods), number % 8)

    def test_tallies_on_some_of_the_same_rods(self):
        yard = Yard()
        rods = new_rods(yard, 4)
        handed = (rods[:2], rods[1:], rods[::-1])
        tallies = [tally(yard, some) for some in handed]
        stops = close(yard, [end for ends in tallies for end in ends])
        chance = random.Random(4)
        for count in range(80):
            which = chance.randrange(3)
            some, (into, done, around) = handed[which], tallies[which]
            apart = {rod: yard.side(rod) for rod in rods if rod not in some}
            number = reading(yard, some) + 1
            greatest = number == 2 ** len(some)
            self.assertEqual(out_of(yard, stops, into), around if greatest else done)
            self.assertEqual(reading(yard, some), 0 if greatest else number)
            self.assertEqual({rod: yard.side(rod) for rod in apart}, apart)

    def test_twenty_rods(self):
        yard = Yard()
        rods = new_rods(yard, 20)
        into, done, around = tally(yard, rods)
        stops = close(yard, (into, done, around))
        for number in (0, 1, 2 ** 19 - 1, 2 ** 19, 2 ** 20 - 2):
            throw_to(yard, rods, number)
            self.assertEqual(out_of(yard, stops, into), done)
            self.assertEqual(reading(yard, rods), number + 1)
        self.assertEqual(out_of(yard, stops, into), around)
        self.assertEqual(sides(yard)[:20], [1] * 20)

    def test_a_hundred_thousand_steps_of_counting(self):
        yard = Yard()
        rods = new_rods(yard, 20)
        into, done, around = tally(yard, rods)
        bell = yard.lay("bell", 1)
        yard.link((bell, 1), into)
        merge(yard, [done, around], (bell, 0))
        yard.put(into)
        self.assertEqual(run(yard, 100000), 100000)
        while yard.engine() != into:
            run(yard, 1)
        self.assertGreater(len(yard.bells()), 1000)
        self.assertEqual(reading(yard, rods), len(yard.bells()))

    def test_the_list_handed_in_is_not_kept(self):
        yard = Yard()
        rods = new_rods(yard, 2)
        handed = list(rods)
        into, done, around = tally(yard, handed)
        before = told(yard)
        handed.clear()
        self.assertEqual(told(yard), before)
        stops = close(yard, (into, done, around))
        self.assertEqual([out_of(yard, stops, into) for count in range(4)], [done, done, done, around])
