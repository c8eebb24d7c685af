"""lazyrails.engine: point 9 of the document, and `back` in its interface."""

import unittest

from lazyrails.engine import back, held, run
from lazyrails.errors import Linked, NoEnd
from lazyrails.gadgets import doorway, fan, merge, tally
from lazyrails.yard import Yard
from tests.asking import numbers_to_come, stepped_yard, told
from tests.deeds import DEEDS, REFUSED, do
from tests.plainly import random_yard, stand_of, stands_plainly

FAR = 10 ** 39


def untrailed(yard):
    """All that the yard tells but its steps."""
    found = told(yard)
    del found["steps"]
    return found


class Back(unittest.TestCase):
    def test_step_by_step(self):
        for seed in range(200):
            yard = random_yard(seed)
            before = []
            for step in range(30):
                before.append(told(yard))
                if run(yard, 1) == 0:
                    before.pop()
            first = told(yard) if before == [] else before[0]
            while before:
                self.assertEqual(back(yard, 1), 1)
                self.assertEqual(told(yard), before.pop())
            self.assertEqual(back(yard, 1), 0)
            self.assertEqual(told(yard), first)

    def test_several_at_once(self):
        for seed in range(100):
            yard = random_yard(seed)
            stands, why = stands_plainly(yard, 20)
            done = run(yard, 20)
            for many in (3, 0, 5):
                taken = back(yard, many)
                self.assertEqual(taken, min(many, done))
                done -= taken
                self.assertEqual(stand_of(yard), stands[done])
                self.assertEqual(yard.steps(), done)

    def test_at_most_as_many_as_there_are(self):
        for most in (2, 3, FAR):
            yard = stepped_yard()
            self.assertEqual(back(yard, most), 2)
            self.assertEqual((yard.engine(), yard.bells(), yard.steps()), ((1, 0), [], 0))
            self.assertEqual([yard.side(rod) for rod in yard.rods()], [1, 1])
            self.assertEqual(back(yard, most), 0)

    def test_at_most_as_many_as_were_asked(self):
        yard = stepped_yard()
        self.assertEqual(back(yard, 1), 1)
        self.assertEqual((yard.engine(), yard.bells(), yard.steps()), ((2, 2), [7], 1))
        self.assertEqual([yard.side(rod) for rod in yard.rods()], [1, 1])

    def test_none_for_a_number_below_one(self):
        for most in (0, -1, -FAR):
            yard = stepped_yard()
            self.assertEqual(back(yard, most), 0)
            self.assertEqual(told(yard), told(stepped_yard()))

    def test_none_of_an_empty_trail(self):
        yard = Yard()
        self.assertEqual(back(yard, 5), 0)
        self.assertEqual(told(yard), told(Yard()))
        yard = stepped_yard()
        yard.off()
        before = told(yard)
        self.assertEqual(back(yard, 5), 0)
        self.assertEqual(told(yard), before)

    def test_what_was_rung_ahead_of_the_trail_stays(self):
        yard = Yard()
        yard.lay("bell", 3)
        yard.link((0, 0), (0, 1))
        yard.put((0, 0))
        run(yard, 2)
        yard.put((0, 0))
        run(yard, 1)
        self.assertEqual(yard.bells(), [3, 3, 3])
        self.assertEqual(back(yard, 5), 1)
        self.assertEqual(yard.bells(), [3, 3])

    def test_the_side_of_a_rod_that_points_share_comes_back(self):
        yard = Yard()
        rod = yard.new_rod(2)
        first, second = yard.lay("turning", rod=rod), yard.lay("lazy", rod=rod)
        yard.link((first, 2), (second, 2))
        yard.link((second, 0), (first, 1))
        yard.link((first, 0), (yard.lay("stop"), 0))
        yard.put((first, 0))
        self.assertEqual(run(yard, 1), 1)
        self.assertEqual(yard.side(rod), 1)
        self.assertEqual(run(yard, 1), 1)
        self.assertEqual(yard.side(rod), 2)
        self.assertEqual(back(yard, 1), 1)
        self.assertEqual((yard.side(rod), yard.engine()), (1, (second, 2)))
        self.assertEqual(back(yard, 1), 1)
        self.assertEqual((yard.side(rod), yard.engine()), (2, (first, 0)))

    def test_what_was_taken_back_is_run_again(self):
        for seed in range(100):
            yard = random_yard(seed)
            run(yard, 15)
            end = told(yard)
            taken = back(yard, 9)
            self.assertEqual(run(yard, taken), taken)
            self.assertEqual(told(yard), end)

    def test_a_held_engine_is_taken_back(self):
        yard = Yard()
        line, stop = yard.lay("line"), yard.lay("stop")
        yard.link((line, 1), (stop, 0))
        yard.put((line, 0))
        run(yard, 5)
        self.assertEqual(held(yard), "stop")
        self.assertEqual(back(yard, 5), 1)
        self.assertIsNone(held(yard))

    def test_numbers_to_come_stay(self):
        yard = stepped_yard()
        back(yard, 2)
        self.assertEqual(numbers_to_come(yard), (7, 2))

    def test_a_hundred_thousand(self):
        yard = Yard()
        yard.lay("bell", 1)
        yard.lay("lazy")
        yard.link((0, 1), (1, 1))
        yard.link((1, 0), (0, 0))
        yard.throw(0, 2)
        yard.put((0, 0))
        before = told(yard)
        self.assertEqual(run(yard, 100000), 100000)
        self.assertEqual(back(yard, 99999), 99999)
        self.assertEqual((yard.bells(), yard.steps(), yard.side(0)), ([1], 1, 2))
        self.assertEqual(back(yard, 99999), 1)
        self.assertEqual(told(yard), before)


class ByHand(unittest.TestCase):
    def test_each_deed_empties_the_trail_and_leaves_the_notes(self):
        for name, args in DEEDS:
            with self.subTest(name=name, args=args):
                yard = stepped_yard()
                self.assertEqual(run(yard, 4), 4)
                do(yard, name, args)
                self.assertEqual((yard.steps(), yard.bells()), (0, [7, 7]))
                before = told(yard)
                self.assertEqual(back(yard, 9), 0)
                self.assertEqual(told(yard), before)

    def test_also_one_that_changes_nothing_else(self):
        for name, args in (("throw", (0, 2)), ("throw", (1, 1)), ("put", ((0, 0),))):
            yard = stepped_yard()
            do(yard, name, args)
            self.assertEqual(untrailed(yard), untrailed(stepped_yard()))
            self.assertEqual(back(yard, 9), 0)
        yard = stepped_yard()
        yard.off()
        yard.off()
        self.assertEqual(yard.steps(), 0)

    def test_steps_behind_a_deed_are_a_trail_of_their_own(self):
        yard = stepped_yard()
        yard.throw(1, 2)
        before = told(yard)
        self.assertEqual(run(yard, 3), 3)
        self.assertEqual(yard.steps(), 3)
        self.assertEqual(back(yard, 9), 3)
        self.assertEqual(told(yard), before)

    def test_a_refused_one_leaves_the_trail(self):
        for error, name, args in REFUSED:
            with self.subTest(name=name, args=args):
                yard = stepped_yard()
                self.assertRaises(error, do, yard, name, args)
                self.assertEqual(back(yard, 9), 2)
                self.assertEqual(yard.engine(), (1, 0))
        yard = stepped_yard()
        run(yard, 2)
        self.assertRaises(Linked, yard.lift, 2)
        self.assertRaises(NoEnd, yard.put, (0, 2))
        self.assertEqual(yard.steps(), 4)

    def test_builders_do_deeds_by_hand(self):
        builders = (
            lambda yard: merge(yard, [(4, 0)], (4, 1)),
            lambda yard: merge(yard, [(4, 0), (4, 1)], (5, 0)),
            doorway,
            lambda yard: fan(yard, 1),
            lambda yard: fan(yard, 3),
            lambda yard: tally(yard, [1]),
        )
        for builder in builders:
            yard = stepped_yard()
            builder(yard)
            self.assertEqual((yard.steps(), yard.bells(), yard.engine()), (0, [7], (0, 0)))
            self.assertEqual(back(yard, 9), 0)
