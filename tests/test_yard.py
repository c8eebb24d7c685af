"""lazyrails.yard: points 5, 6 and 7 of the document, deed by deed."""

import unittest

from lazyrails.errors import (
    Linked, NoBell, NoEnd, NoKind, NoNote, NoPiece, NoPoint, NoRod, NoSide, NotLinked, Occupied, SameEnd,
)
from lazyrails.yard import Yard
from tests.asking import told

FORTY = 10 ** 40 - 1
KINDS = ("line", "bell", "stop", "still", "lazy", "turning")
POINTS = ("still", "lazy", "turning")
ENDS = {"line": 2, "bell": 2, "stop": 1, "still": 3, "lazy": 3, "turning": 3}
NO_PIECES = (-1, 6, FORTY, -FORTY)


def yard_of_each_kind():
    """A yard whose pieces 0 to 5 are of KINDS, in that order."""
    yard = Yard()
    for kind in KINDS:
        yard.lay(kind)
    return yard


class Empty(unittest.TestCase):
    def test_nothing_is_there(self):
        yard = Yard()
        self.assertEqual(yard.pieces(), [])
        self.assertEqual(yard.rods(), [])
        self.assertIsNone(yard.engine())
        self.assertEqual(yard.bells(), [])
        self.assertEqual(yard.steps(), 0)


class Laying(unittest.TestCase):
    def test_pieces_are_numbered_as_they_are_laid(self):
        yard = Yard()
        self.assertEqual([yard.lay(kind) for kind in KINDS], [0, 1, 2, 3, 4, 5])
        self.assertEqual(yard.pieces(), [0, 1, 2, 3, 4, 5])
        self.assertEqual([yard.kind(piece) for piece in yard.pieces()], list(KINDS))

    def test_rods_are_numbered_apart_from_pieces(self):
        yard = Yard()
        yard.lay("line")
        yard.lay("line")
        self.assertEqual(yard.new_rod(), 0)
        self.assertEqual(yard.rod(yard.lay("still")), 1)
        self.assertEqual(yard.new_rod(), 2)
        self.assertEqual(yard.lay("line"), 3)
        self.assertEqual(yard.rods(), [0, 1, 2])

    def test_only_points_get_rods(self):
        yard = Yard()
        for kind in ("line", "bell", "stop"):
            yard.lay(kind)
        self.assertEqual(yard.rods(), [])

    def test_a_point_without_a_rod_gets_a_new_one_that_lies_to_1(self):
        for kind in POINTS:
            yard = Yard()
            yard.new_rod(2)
            self.assertEqual(yard.rod(yard.lay(kind)), 1)
            self.assertEqual(yard.rod(yard.lay(kind, rod=None)), 2)
            self.assertEqual(yard.rod(yard.lay(kind, 5, None)), 3)
            self.assertEqual([yard.side(rod) for rod in yard.rods()], [2, 1, 1, 1])

    def test_a_point_is_laid_on_a_rod_that_is_there(self):
        yard = Yard()
        yard.new_rod()
        yard.new_rod(2)
        pieces = [yard.lay(kind, rod=1) for kind in POINTS] + [yard.lay("still", rod=0)]
        self.assertEqual([yard.rod(piece) for piece in pieces], [1, 1, 1, 0])
        self.assertEqual(yard.rods(), [0, 1])
        self.assertEqual([yard.side(0), yard.side(1)], [1, 2])

    def test_a_numbered_rod_0_is_not_a_missing_one(self):
        yard = Yard()
        yard.new_rod(2)
        self.assertEqual(yard.rod(yard.lay("lazy", 0, 0)), 0)
        self.assertEqual(yard.rods(), [0])

    def test_notes(self):
        yard = Yard()
        pieces = [yard.lay("bell"), yard.lay("bell", 0), yard.lay("bell", 9999), yard.lay("bell", note=42)]
        self.assertEqual([yard.note(piece) for piece in pieces], [0, 0, 9999, 42])

    def test_notes_that_no_bell_has(self):
        for note in (-1, 10000, FORTY, -FORTY):
            self.assertRaises(NoNote, Yard().lay, "bell", note)

    def test_rods_that_are_not_there(self):
        yard = Yard()
        yard.new_rod()
        for kind in POINTS:
            for rod in (-1, 1, FORTY, -FORTY):
                self.assertRaises(NoRod, yard.lay, kind, 0, rod)

    def test_note_and_rod_are_not_looked_at_for_other_kinds(self):
        yard = Yard()
        yard.lay("line", -1, 99)
        yard.lay("stop", 10000, -1)
        yard.lay("bell", 5, 99)
        self.assertEqual(yard.rod(yard.lay("still", 10000)), 0)
        self.assertEqual(yard.rod(yard.lay("lazy", -1, 0)), 0)
        self.assertEqual(yard.pieces(), [0, 1, 2, 3, 4])

    def test_kinds_that_are_not_there(self):
        for kind in ("", "Line", "point", "bell "):
            self.assertRaises(NoKind, Yard().lay, kind)
            self.assertRaises(NoKind, Yard().lay, kind, -1, -1)

    def test_new_rods(self):
        yard = Yard()
        self.assertEqual([yard.new_rod(), yard.new_rod(1), yard.new_rod(2), yard.new_rod(side=2)], [0, 1, 2, 3])
        self.assertEqual([yard.side(rod) for rod in range(4)], [1, 1, 2, 2])
        for side in (0, 3, -1, FORTY, -FORTY):
            self.assertRaises(NoSide, yard.new_rod, side)


class Throwing(unittest.TestCase):
    def test_a_rod_lies_to_the_side_it_was_thrown_to(self):
        yard = Yard()
        yard.lay("still")
        yard.lay("lazy")
        for side in (2, 2, 1, 1, 2):
            self.assertIsNone(yard.throw(1, side))
            self.assertEqual([yard.side(0), yard.side(1)], [1, side])

    def test_points_on_one_rod_lie_to_its_side(self):
        yard = Yard()
        first = yard.lay("still")
        second = yard.lay("turning", rod=0)
        yard.throw(yard.rod(second), 2)
        self.assertEqual(yard.side(yard.rod(first)), 2)

    def test_refused(self):
        yard = Yard()
        yard.new_rod()
        for rod in (-1, 1, FORTY, -FORTY):
            self.assertRaises(NoRod, yard.throw, rod, 1)
            self.assertRaises(NoRod, yard.throw, rod, 0)
        for side in (0, 3, -1, FORTY, -FORTY):
            self.assertRaises(NoSide, yard.throw, 0, side)


class Linking(unittest.TestCase):
    def test_two_ends_are_mates(self):
        yard = yard_of_each_kind()
        self.assertIsNone(yard.mate((0, 1)))
        self.assertIsNone(yard.link((0, 1), (4, 2)))
        self.assertEqual(yard.mate((0, 1)), (4, 2))
        self.assertEqual(yard.mate((4, 2)), (0, 1))
        others = [end for end in every_end(yard) if end not in ((0, 1), (4, 2))]
        self.assertEqual([yard.mate(end) for end in others], [None] * len(others))

    def test_every_end_can_be_linked(self):
        for other in every_end(yard_of_each_kind()):
            yard = yard_of_each_kind()
            line = yard.lay("line")
            yard.link(other, (line, 0))
            self.assertEqual(yard.mate((line, 0)), other)

    def test_two_ends_of_one_piece(self):
        yard = yard_of_each_kind()
        yard.link((0, 0), (0, 1))
        yard.link((3, 2), (3, 0))
        self.assertEqual([yard.mate((0, 0)), yard.mate((0, 1))], [(0, 1), (0, 0)])
        self.assertEqual([yard.mate((3, at)) for at in range(3)], [(3, 2), None, (3, 0)])

    def test_unlinking_from_either_end(self):
        for end in ((0, 1), (1, 0)):
            yard = yard_of_each_kind()
            yard.link((0, 1), (1, 0))
            yard.link((1, 1), (2, 0))
            self.assertIsNone(yard.unlink(end))
            self.assertIsNone(yard.mate((0, 1)))
            self.assertIsNone(yard.mate((1, 0)))
            self.assertEqual(yard.mate((1, 1)), (2, 0))

    def test_unlinked_ends_can_be_linked_again(self):
        yard = yard_of_each_kind()
        yard.link((0, 1), (1, 0))
        yard.unlink((1, 0))
        yard.link((1, 0), (0, 0))
        self.assertEqual(yard.mate((0, 0)), (1, 0))

    def test_ends_that_are_not_there(self):
        yard = yard_of_each_kind()
        for piece in NO_PIECES:
            for ask in (yard.mate, yard.unlink, yard.put):
                self.assertRaises(NoPiece, ask, (piece, 0))
                self.assertRaises(NoPiece, ask, (piece, -1))
            self.assertRaises(NoPiece, yard.link, (piece, 0), (0, 0))
            self.assertRaises(NoPiece, yard.link, (0, 0), (piece, 0))
        for piece, kind in enumerate(KINDS):
            for end in (-1, ENDS[kind], FORTY, -FORTY):
                for ask in (yard.mate, yard.unlink, yard.put):
                    self.assertRaises(NoEnd, ask, (piece, end))
                self.assertRaises(NoEnd, yard.link, (piece, end), (0, 0))
                self.assertRaises(NoEnd, yard.link, (0, 0), (piece, end))

    def test_one_is_looked_at_ahead_of_the_other(self):
        yard = yard_of_each_kind()
        self.assertRaises(NoEnd, yard.link, (0, 2), (6, 0))
        self.assertRaises(NoPiece, yard.link, (6, 0), (0, 2))
        self.assertRaises(NoPiece, yard.link, (6, 9), (0, 0))
        self.assertRaises(NoPiece, yard.link, (0, 0), (6, 9))

    def test_an_end_and_itself(self):
        yard = yard_of_each_kind()
        self.assertRaises(SameEnd, yard.link, (0, 0), (0, 0))
        self.assertRaises(NoPiece, yard.link, (6, 0), (6, 0))
        self.assertRaises(NoEnd, yard.link, (0, 2), (0, 2))
        self.assertRaises(SameEnd, yard.link, tuple([0, 0]), tuple([0, 0]))
        yard.link((0, 0), (1, 0))
        self.assertRaises(SameEnd, yard.link, (0, 0), (0, 0))

    def test_linked_ends(self):
        yard = yard_of_each_kind()
        yard.link((0, 0), (1, 0))
        for one, other in (((0, 0), (1, 1)), ((1, 1), (0, 0)), ((0, 0), (1, 0)), ((1, 0), (0, 0))):
            self.assertRaises(Linked, yard.link, one, other)
        self.assertRaises(NoEnd, yard.link, (0, 0), (1, 2))

    def test_unlinking_what_is_not_linked(self):
        yard = yard_of_each_kind()
        self.assertRaises(NotLinked, yard.unlink, (0, 0))
        yard.link((0, 0), (1, 0))
        self.assertRaises(NotLinked, yard.unlink, (0, 1))


class Lifting(unittest.TestCase):
    def test_a_lifted_piece_is_not_there_any_more(self):
        for piece in range(6):
            yard = yard_of_each_kind()
            self.assertIsNone(yard.lift(piece))
            self.assertEqual(yard.pieces(), [other for other in range(6) if other != piece])
            for ask in (yard.kind, yard.note, yard.rod, yard.lift):
                self.assertRaises(NoPiece, ask, piece)
            for ask in (yard.mate, yard.unlink, yard.put):
                self.assertRaises(NoPiece, ask, (piece, 0))
            self.assertRaises(NoPiece, yard.link, (piece, 0), ((piece + 1) % 6, 0))

    def test_no_number_comes_twice(self):
        yard = yard_of_each_kind()
        yard.lift(5)
        self.assertEqual(yard.lay("line"), 6)
        yard.lift(0)
        self.assertEqual(yard.lay("line"), 7)
        self.assertEqual(yard.pieces(), [1, 2, 3, 4, 6, 7])
        for piece in yard.pieces():
            yard.lift(piece)
        self.assertEqual(yard.pieces(), [])
        self.assertEqual(yard.lay("stop"), 8)

    def test_a_new_piece_has_nothing_of_a_lifted_one(self):
        yard = Yard()
        yard.lay("bell", 7)
        yard.lay("still")
        yard.lift(0)
        yard.lift(1)
        line = yard.lay("line")
        self.assertRaises(NoBell, yard.note, line)
        self.assertRaises(NoPoint, yard.rod, line)

    def test_rods_stay(self):
        yard = Yard()
        yard.lay("lazy")
        yard.lay("still")
        yard.throw(0, 2)
        yard.lift(0)
        yard.lift(1)
        self.assertEqual(yard.rods(), [0, 1])
        self.assertEqual([yard.side(0), yard.side(1)], [2, 1])
        self.assertEqual(yard.rod(yard.lay("turning")), 2)
        self.assertEqual(yard.rod(yard.lay("turning", rod=0)), 0)
        yard.throw(1, 2)
        self.assertEqual([yard.side(rod) for rod in yard.rods()], [2, 2, 1])

    def test_pieces_that_are_not_there(self):
        yard = yard_of_each_kind()
        for piece in NO_PIECES:
            self.assertRaises(NoPiece, yard.lift, piece)

    def test_a_piece_with_a_linked_end_stays(self):
        for end in every_end(yard_of_each_kind()):
            yard = yard_of_each_kind()
            line = yard.lay("line")
            yard.link(end, (line, 0))
            self.assertRaises(Linked, yard.lift, end[0])
            self.assertRaises(Linked, yard.lift, line)
            yard.unlink(end)
            yard.lift(end[0])

    def test_a_piece_linked_to_itself_stays(self):
        yard = yard_of_each_kind()
        yard.link((3, 1), (3, 2))
        self.assertRaises(Linked, yard.lift, 3)

    def test_a_piece_at_which_the_engine_stands_stays(self):
        for end in every_end(yard_of_each_kind()):
            yard = yard_of_each_kind()
            yard.put(end)
            self.assertRaises(Occupied, yard.lift, end[0])
            yard.lift((end[0] + 1) % 6)
            yard.off()
            yard.lift(end[0])

    def test_a_link_goes_ahead_of_the_engine(self):
        yard = yard_of_each_kind()
        yard.link((3, 2), (0, 0))
        yard.put((3, 0))
        self.assertRaises(Linked, yard.lift, 3)


class Engine(unittest.TestCase):
    def test_it_stands_where_it_was_put_last(self):
        yard = yard_of_each_kind()
        for end in every_end(yard) + [(0, 0), (0, 0)]:
            self.assertIsNone(yard.put(end))
            self.assertEqual(yard.engine(), end)

    def test_a_linked_end(self):
        yard = yard_of_each_kind()
        yard.link((0, 0), (1, 0))
        yard.put((1, 0))
        self.assertEqual(yard.engine(), (1, 0))
        yard.unlink((1, 0))
        self.assertEqual(yard.engine(), (1, 0))

    def test_off(self):
        yard = yard_of_each_kind()
        self.assertIsNone(yard.off())
        self.assertIsNone(yard.engine())
        yard.put((0, 1))
        self.assertIsNone(yard.off())
        self.assertIsNone(yard.engine())

    def test_putting_changes_nothing_else(self):
        yard = yard_of_each_kind()
        before = told(yard)
        yard.put((3, 0))
        yard.off()
        self.assertEqual(told(yard), before)


class Asking(unittest.TestCase):
    def test_pieces_that_are_not_there(self):
        yard = yard_of_each_kind()
        for piece in NO_PIECES:
            for ask in (yard.kind, yard.note, yard.rod):
                self.assertRaises(NoPiece, ask, piece)

    def test_notes_of_other_kinds(self):
        yard = yard_of_each_kind()
        for piece in (0, 2, 3, 4, 5):
            self.assertRaises(NoBell, yard.note, piece)

    def test_rods_of_other_kinds(self):
        yard = yard_of_each_kind()
        for piece in (0, 1, 2):
            self.assertRaises(NoPoint, yard.rod, piece)

    def test_sides_of_rods_that_are_not_there(self):
        yard = yard_of_each_kind()
        for rod in (-1, 3, FORTY, -FORTY):
            self.assertRaises(NoRod, yard.side, rod)


def every_end(yard):
    return [(piece, end) for piece in yard.pieces() for end in range(ENDS[yard.kind(piece)])]
