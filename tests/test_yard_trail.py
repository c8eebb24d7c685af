"""lazyrails.yard: points 1, 2 and 9 of the document, as far as a yard has them."""

import unittest

from lazyrails.errors import Occupied
from lazyrails.yard import Yard
from tests.asking import numbers_to_come, stepped_yard, told
from tests.deeds import DEEDS, REFUSED, do


class Trail(unittest.TestCase):
    def test_a_stepped_yard_tells_its_steps_and_notes(self):
        yard = stepped_yard()
        self.assertEqual(yard.steps(), 2)
        self.assertEqual(yard.bells(), [7])
        self.assertEqual(yard.engine(), (0, 0))
        self.assertEqual([yard.side(0), yard.side(1)], [2, 1])

    def test_each_deed_by_hand_empties_the_trail_and_leaves_the_notes(self):
        for name, args in DEEDS:
            with self.subTest(name=name, args=args):
                yard = stepped_yard()
                do(yard, name, args)
                self.assertEqual(yard.steps(), 0)
                self.assertEqual(yard.bells(), [7])

    def test_asking_leaves_the_trail(self):
        yard = stepped_yard()
        before = told(yard)
        self.assertEqual(told(yard), before)
        self.assertEqual(yard.steps(), 2)

    def test_notes_are_told_in_order_and_those_of_lifted_bells_too(self):
        yard = Yard()
        for note in (3, 1, 2):
            yard.put((yard.lay("bell", note), 0))
            yard.carry((0, 0), 1)
        yard.carry((0, 0), 1)
        self.assertEqual(yard.bells(), [3, 1, 2, 3])
        self.assertEqual(yard.steps(), 2)
        yard.off()
        for piece in yard.pieces():
            yard.lift(piece)
        self.assertEqual(yard.bells(), [3, 1, 2, 3])


class Refused(unittest.TestCase):
    def test_a_refused_deed_changes_nothing(self):
        for error, name, args in REFUSED:
            with self.subTest(name=name, args=args):
                yard = stepped_yard()
                self.assertRaises(error, do, yard, name, args)
                self.assertEqual(told(yard), told(stepped_yard()))
                self.assertEqual(numbers_to_come(yard), (7, 2))

    def test_an_occupied_piece(self):
        yard = stepped_yard()
        yard.put((2, 0))
        yard.unlink((2, 2))
        yard.carry((6, 0), 2)
        before = told(yard)
        self.assertRaises(Occupied, yard.lift, 6)
        self.assertEqual(told(yard), before)
        self.assertEqual(yard.steps(), 1)


class Apart(unittest.TestCase):
    def test_told_lists_are_new_ones(self):
        for name in ("pieces", "rods", "bells"):
            yard = stepped_yard()
            do(yard, name, ()).append(99)
            do(yard, name, ()).clear()
            self.assertEqual(told(yard), told(stepped_yard()))
            self.assertIsInstance(do(yard, name, ()), list)

    def test_a_told_list_stays_as_it_was(self):
        yard = stepped_yard()
        pieces, rods, bells = yard.pieces(), yard.rods(), yard.bells()
        yard.lay("still")
        yard.put((1, 0))
        yard.carry((0, 0), 1)
        self.assertEqual((pieces, rods, bells), ([0, 1, 2, 4, 5, 6], [0, 1], [7]))

    def test_two_yards_share_nothing(self):
        first = stepped_yard()
        second = Yard()
        self.assertEqual(told(second), told(Yard()))
        for name, args in DEEDS:
            other = stepped_yard()
            do(other, name, args)
            self.assertEqual(told(first), told(stepped_yard()))
        self.assertEqual(numbers_to_come(second), (0, 0))


class Sizes(unittest.TestCase):
    def test_three_thousand_pieces(self):
        yard = Yard()
        many = 3000
        for number in range(many):
            self.assertEqual(yard.lay("still"), number)
        for number in range(many):
            yard.link((number, 1), ((number + 1) % many, 0))
        self.assertEqual(yard.pieces(), list(range(many)))
        self.assertEqual(yard.rods(), list(range(many)))
        self.assertEqual(yard.mate((0, 0)), (many - 1, 1))
        for number in range(many):
            yard.unlink((number, 1))
        yard.put((int("2999"), 0))
        self.assertRaises(Occupied, yard.lift, int("2999"))
        yard.off()
        for number in range(many):
            yard.lift(number)
        self.assertEqual(yard.pieces(), [])
        self.assertEqual(yard.lay("line"), many)

    def test_a_hundred_thousand_steps(self):
        yard = Yard()
        yard.put((yard.lay("bell", 5), 0))
        for number in range(100000):
            yard.carry((0, 0), 1)
        self.assertEqual(yard.steps(), 100000)
        self.assertEqual(yard.bells(), [5] * 100000)
        yard.off()
        self.assertEqual(yard.steps(), 0)
