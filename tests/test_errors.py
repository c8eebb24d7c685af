"""lazyrails.errors: the refusals and how they stand to each other."""

import unittest

from lazyrails import errors

REFUSALS = (
    "NoKind NoEnd NoSide NoNote NoPiece NoRod NoPoint NoBell SameEnd Linked NotLinked Occupied NoStand NoMany "
    "NoStretch NoRow NoMark NoCounter NoWidth NoValue FallsOut NoText"
).split()


class Refusals(unittest.TestCase):
    def test_rail_error_is_straight_under_value_error(self):
        self.assertEqual(errors.RailError.__bases__, (ValueError,))

    def test_there_are_twenty_two(self):
        self.assertEqual(len(set(REFUSALS)), 22)

    def test_each_is_straight_under_rail_error(self):
        for name in REFUSALS:
            with self.subTest(name):
                self.assertEqual(getattr(errors, name).__bases__, (errors.RailError,))

    def test_none_is_another_one(self):
        classes = [getattr(errors, name) for name in REFUSALS]
        self.assertEqual(len(set(classes)), 22)
        self.assertEqual([found.__name__ for found in classes], REFUSALS)

    def test_each_can_be_raised_and_caught_as_a_refusal(self):
        for name in REFUSALS:
            with self.subTest(name), self.assertRaises(errors.RailError):
                raise getattr(errors, name)("why")
