"""lazyrails.stands: point 10 of the document, and points 1 and 9 as far as they touch it."""

import unittest

from lazyrails.engine import back, run
from lazyrails.errors import NoBell, NoStand
from lazyrails.stands import Shelf, twin
from lazyrails.yard import Yard
from tests.asking import numbers_to_come, stepped_yard, told, told_without_trail
from tests.deeds import DEEDS, REFUSED, do
from tests.plainly import random_yard

FAR = 10 ** 39


def copying(copy):
    """The two ways to another yard like this one, for tests that both must pass."""
    if copy == "twin":
        return twin
    shelf = Shelf()
    return lambda yard: shelf.again(shelf.keep(yard))


class Twin(unittest.TestCase):
    copy = "twin"

    def setUp(self):
        self.like = copying(self.copy)

    def test_it_is_a_yard_like_the_first_but_for_its_trail(self):
        for seed in range(60):
            yard = random_yard(seed)
            run(yard, seed % 7)
            other = self.like(yard)
            self.assertIsInstance(other, Yard)
            self.assertEqual(told(other), told_without_trail(yard))
            self.assertEqual(numbers_to_come(other), numbers_to_come(yard))

    def test_of_an_empty_yard(self):
        other = self.like(Yard())
        self.assertEqual(told(other), told(Yard()))
        self.assertEqual(numbers_to_come(other), (0, 0))

    def test_its_trail_is_empty_and_the_first_one_keeps_its_own(self):
        yard = stepped_yard()
        other = self.like(yard)
        self.assertEqual((other.steps(), yard.steps()), (0, 2))
        self.assertEqual(back(other, 5), 0)
        self.assertEqual(told(other), told_without_trail(stepped_yard()))
        self.assertEqual(told(yard), told(stepped_yard()))
        self.assertEqual(back(yard, 5), 2)

    def test_numbers_to_come_behind_liftings_and_lone_rods(self):
        yard = Yard()
        for kind in ("line", "turning", "lazy"):
            yard.lay(kind)
        yard.new_rod(2)
        for piece in (2, 1, 0):
            yard.lift(piece)
        other = self.like(yard)
        self.assertEqual((other.pieces(), other.rods(), other.side(2)), ([], [0, 1, 2], 2))
        self.assertEqual(numbers_to_come(other), (3, 3))

    def test_a_deed_does_the_same_to_both(self):
        for name, args in DEEDS:
            with self.subTest(name=name, args=args):
                yard = stepped_yard()
                other = self.like(yard)
                self.assertEqual(do(other, name, args), do(yard, name, args))
                self.assertEqual(told(other), told(yard))
                self.assertEqual(numbers_to_come(other), numbers_to_come(yard))

    def test_a_deed_is_refused_by_both(self):
        for error, name, args in REFUSED:
            with self.subTest(name=name, args=args):
                other = self.like(stepped_yard())
                self.assertRaises(error, do, other, name, args)

    def test_what_is_done_to_the_twin_leaves_the_first(self):
        yard = stepped_yard()
        for name, args in DEEDS:
            do(self.like(yard), name, args)
            self.assertEqual(told(yard), told(stepped_yard()))
        other = self.like(yard)
        self.assertEqual(run(other, 5), 5)
        self.assertEqual(told(yard), told(stepped_yard()))
        self.assertEqual(numbers_to_come(yard), (7, 2))

    def test_what_is_done_to_the_first_leaves_the_twin(self):
        for name, args in DEEDS:
            yard = stepped_yard()
            other = self.like(yard)
            do(yard, name, args)
            self.assertEqual(told(other), told_without_trail(stepped_yard()))
        yard = stepped_yard()
        other = self.like(yard)
        run(yard, 5)
        self.assertEqual(told(other), told_without_trail(stepped_yard()))
        back(yard, 9)
        self.assertEqual(told(other), told_without_trail(stepped_yard()))

    def test_both_go_on_apart(self):
        expected = []
        for name, args in DEEDS:
            yard = stepped_yard()
            do(yard, name, args)
            expected.append(told(yard))
        for (name, args), told_first in zip(DEEDS, expected):
            for (other_name, other_args), told_twin in zip(DEEDS, expected):
                yard = stepped_yard()
                other = self.like(yard)
                do(yard, name, args)
                do(other, other_name, other_args)
                self.assertEqual((told(yard), told(other)), (told_first, told_twin))

    def test_a_piece_of_one_number_is_another_in_each(self):
        yard = stepped_yard()
        other = self.like(yard)
        third = self.like(yard)
        self.assertEqual((yard.lay("bell", 1), other.lay("bell", 2), third.lay("line")), (7, 7, 7))
        self.assertEqual((yard.note(7), other.note(7)), (1, 2))
        self.assertRaises(NoBell, third.note, 7)

    def test_both_run_alike(self):
        for seed in range(60):
            yard = random_yard(seed)
            run(yard, 3)
            yard.throw(0, 2)
            other = self.like(yard)
            self.assertEqual(run(other, 25), run(yard, 25))
            self.assertEqual(told(other), told(yard))

    def test_of_three_thousand_pieces(self):
        yard = Yard()
        for number in range(3000):
            yard.lay("lazy")
        for number in range(3000):
            yard.link((number, 0), ((number + 1) % 3000, 2))
        yard.put((0, 2))
        run(yard, 1500)
        other = self.like(yard)
        self.assertEqual(told(other), told_without_trail(yard))


class Kept(Twin):
    """What is kept and told again is such a twin too."""

    copy = "shelf"


class Shelves(unittest.TestCase):
    def test_numbers_from_nought_on(self):
        shelf = Shelf()
        self.assertEqual(shelf.numbers(), [])
        yard = stepped_yard()
        self.assertEqual([shelf.keep(yard) for count in range(4)], [0, 1, 2, 3])
        self.assertEqual(shelf.numbers(), [0, 1, 2, 3])

    def test_no_number_comes_twice(self):
        shelf = Shelf()
        for count in range(3):
            shelf.keep(Yard())
        for number in (2, 0, 1):
            self.assertIsNone(shelf.drop(number))
        self.assertEqual(shelf.numbers(), [])
        self.assertEqual(shelf.keep(Yard()), 3)
        shelf.drop(3)
        self.assertEqual(shelf.keep(Yard()), 4)
        self.assertEqual(shelf.numbers(), [4])

    def test_numbers_rise_behind_droppings(self):
        shelf = Shelf()
        for count in range(12):
            shelf.keep(Yard())
        for number in (0, 5, 11):
            shelf.drop(number)
        shelf.keep(Yard())
        self.assertEqual(shelf.numbers(), [1, 2, 3, 4, 6, 7, 8, 9, 10, 12])

    def test_each_stand_as_it_was_at_the_keeping(self):
        shelf = Shelf()
        yard = stepped_yard()
        then = []
        for step in range(6):
            self.assertEqual(shelf.keep(yard), step)
            then.append(told_without_trail(yard))
            run(yard, 1)
        yard.off()
        for number in (5, 0, 3, 3, 1, 0):
            self.assertEqual(told(shelf.again(number)), then[number])

    def test_told_again_as_often_as_one_likes_each_time_a_yard_of_its_own(self):
        shelf = Shelf()
        number = shelf.keep(stepped_yard())
        expected = told_without_trail(stepped_yard())
        for name, args in DEEDS:
            one, other = shelf.again(number), shelf.again(number)
            do(one, name, args)
            self.assertEqual(told(other), expected)
            self.assertEqual(told(shelf.again(number)), expected)
        run(shelf.again(number), 9)
        self.assertEqual(told(shelf.again(number)), expected)
        self.assertEqual(numbers_to_come(shelf.again(number)), (7, 2))
        self.assertEqual(shelf.numbers(), [number])

    def test_keeping_leaves_the_yard(self):
        shelf = Shelf()
        yard = stepped_yard()
        shelf.keep(yard)
        self.assertEqual(told(yard), told(stepped_yard()))
        shelf.again(0)
        shelf.drop(0)
        self.assertEqual(told(yard), told(stepped_yard()))

    def test_a_dropped_stand_is_gone_and_the_others_stay(self):
        shelf = Shelf()
        first, second = stepped_yard(), Yard()
        shelf.keep(first)
        shelf.keep(second)
        given = shelf.again(0)
        shelf.drop(0)
        self.assertRaises(NoStand, shelf.again, 0)
        self.assertRaises(NoStand, shelf.drop, 0)
        self.assertEqual(told(shelf.again(1)), told(Yard()))
        self.assertEqual(told(given), told_without_trail(stepped_yard()))

    def test_no_such_stand(self):
        shelf = Shelf()
        for number in (0, -1, 1, FAR):
            self.assertRaises(NoStand, shelf.again, number)
            self.assertRaises(NoStand, shelf.drop, number)
        self.assertEqual(shelf.keep(stepped_yard()), 0)
        for number in (-1, 1, 2, FAR, -FAR):
            self.assertRaises(NoStand, shelf.again, number)
            self.assertRaises(NoStand, shelf.drop, number)
        self.assertEqual(shelf.numbers(), [0])
        self.assertEqual(told(shelf.again(0)), told_without_trail(stepped_yard()))
        self.assertEqual(shelf.keep(Yard()), 1)

    def test_numbers_are_a_new_list(self):
        shelf = Shelf()
        shelf.keep(Yard())
        numbers = shelf.numbers()
        self.assertIsInstance(numbers, list)
        numbers.append(9)
        self.assertEqual(shelf.numbers(), [0])
        shelf.numbers().clear()
        self.assertEqual(shelf.numbers(), [0])
        shelf.keep(Yard())
        self.assertEqual(numbers, [0, 9])

    def test_two_shelves_share_nothing(self):
        one, other = Shelf(), Shelf()
        one.keep(stepped_yard())
        one.keep(Yard())
        self.assertEqual(other.numbers(), [])
        self.assertRaises(NoStand, other.again, 0)
        self.assertEqual(other.keep(Yard()), 0)
        other.drop(0)
        self.assertEqual(one.numbers(), [0, 1])
        self.assertEqual(told(one.again(0)), told_without_trail(stepped_yard()))
