"""lazyrails.points: points 3 and 4 of the document."""

import unittest

from lazyrails.errors import NoEnd, NoKind, NoSide
from lazyrails.points import ends_of, is_point, passage

FORTY = 10 ** 40 - 1
NO_KINDS = ("", "Line", "line ", " line", "points", "lines", "STOP", "0", "lin")


class Kinds(unittest.TestCase):
    def test_ends(self):
        many = {"line": 2, "bell": 2, "stop": 1, "still": 3, "lazy": 3, "turning": 3}
        for kind in many:
            with self.subTest(kind):
                self.assertEqual(ends_of(kind), many[kind])

    def test_which_are_points(self):
        for kind in ("still", "lazy", "turning"):
            self.assertIs(is_point(kind), True)
        for kind in ("line", "bell", "stop"):
            self.assertIs(is_point(kind), False)

    def test_no_other_kinds(self):
        for kind in NO_KINDS:
            with self.subTest(kind):
                self.assertRaises(NoKind, ends_of, kind)
                self.assertRaises(NoKind, is_point, kind)
                self.assertRaises(NoKind, passage, kind, 0, 1)


class Passing(unittest.TestCase):
    def test_lines_and_bells(self):
        for kind in ("line", "bell"):
            for side in (1, 2):
                self.assertEqual(passage(kind, 0, side), (1, side))
                self.assertEqual(passage(kind, 1, side), (0, side))

    def test_stops(self):
        self.assertEqual(passage("stop", 0, 1), (None, 1))
        self.assertEqual(passage("stop", 0, 2), (None, 2))

    def test_still_points(self):
        self.check_point("still", [(1, 1), (2, 2), (0, 1), (0, 2), (0, 1), (0, 2)])

    def test_lazy_points(self):
        self.check_point("lazy", [(1, 1), (2, 2), (0, 1), (0, 1), (0, 2), (0, 2)])

    def test_turning_points(self):
        self.check_point("turning", [(1, 2), (2, 1), (0, 1), (0, 2), (0, 1), (0, 2)])

    def check_point(self, kind, expected):
        ways = [(0, 1), (0, 2), (1, 1), (1, 2), (2, 1), (2, 2)]
        self.assertEqual([passage(kind, end, side) for end, side in ways], expected)

    def test_a_passage_is_a_tuple(self):
        for kind in ("line", "stop", "still"):
            self.assertIsInstance(passage(kind, 0, 1), tuple)

    def test_any_side_of_what_is_no_point_is_told_as_it_was(self):
        for side in (0, -1, 3, FORTY, -FORTY):
            self.assertEqual(passage("line", 1, side), (0, side))
            self.assertEqual(passage("bell", 0, side), (1, side))
            self.assertEqual(passage("stop", 0, side), (None, side))


class Refused(unittest.TestCase):
    def test_ends_that_the_kind_does_not_have(self):
        beyond = {"line": 2, "bell": 2, "stop": 1, "still": 3, "lazy": 3, "turning": 3}
        for kind in beyond:
            for end in (beyond[kind], -1, -2, FORTY, -FORTY):
                with self.subTest(kind=kind, end=end):
                    self.assertRaises(NoEnd, passage, kind, end, 1)

    def test_sides_of_points(self):
        for kind in ("still", "lazy", "turning"):
            for end in (0, 1, 2):
                for side in (0, 3, -1, -2, FORTY, -FORTY):
                    with self.subTest(kind=kind, end=end, side=side):
                        self.assertRaises(NoSide, passage, kind, end, side)

    def test_the_kind_goes_first(self):
        for end in (0, -1, 3):
            for side in (1, 0):
                self.assertRaises(NoKind, passage, "point", end, side)

    def test_the_end_goes_ahead_of_the_side(self):
        for end in (-1, 3):
            self.assertRaises(NoEnd, passage, "lazy", end, 0)
            self.assertRaises(NoEnd, passage, "line", end, 0)
