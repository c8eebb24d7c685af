"""Deeds by hand for the tests: such as a stepped_yard does, and such as it refuses."""

from lazyrails.errors import (
    Linked, NoBell, NoEnd, NoKind, NoNote, NoPiece, NoPoint, NoRod, NoSide, NotLinked, SameEnd,
)

# Each one can be done to a stepped_yard.
DEEDS = (
    ("lay", ("line",)),
    ("lay", ("bell", 9999)),
    ("lay", ("still",)),
    ("lay", ("lazy", 0, 1)),
    ("new_rod", ()),
    ("new_rod", (2,)),
    ("lift", (6,)),
    ("link", ((4, 0), (4, 1))),
    ("link", ((4, 2), (5, 0))),
    ("unlink", ((0, 1),)),
    ("unlink", ((2, 2),)),
    ("throw", (1, 2)),
    ("throw", (1, 1)),
    ("put", ((5, 0),)),
    ("put", ((0, 0),)),
    ("off", ()),
)

# Each one is refused by a stepped_yard, whose engine stands at (0, 0).
REFUSED = (
    (NoKind, "lay", ("",)),
    (NoNote, "lay", ("bell", -1)),
    (NoNote, "lay", ("bell", 10000)),
    (NoRod, "lay", ("still", 0, 2)),
    (NoRod, "lay", ("lazy", 0, -1)),
    (NoSide, "new_rod", (0,)),
    (NoPiece, "lift", (3,)),
    (Linked, "lift", (2,)),
    (Linked, "lift", (0,)),
    (NoPiece, "link", ((3, 0), (4, 0))),
    (NoEnd, "link", ((5, 1), (4, 0))),
    (NoPiece, "link", ((4, 0), (7, 0))),
    (NoEnd, "link", ((4, 0), (5, -1))),
    (SameEnd, "link", ((4, 0), (4, 0))),
    (Linked, "link", ((4, 0), (0, 1))),
    (Linked, "link", ((0, 1), (4, 0))),
    (NoPiece, "unlink", ((3, 0),)),
    (NoEnd, "unlink", ((0, 2),)),
    (NotLinked, "unlink", ((4, 0),)),
    (NoRod, "throw", (2, 1)),
    (NoSide, "throw", (1, 3)),
    (NoPiece, "put", ((3, 0),)),
    (NoEnd, "put", ((0, -1),)),
    (NoPiece, "kind", (3,)),
    (NoBell, "note", (0,)),
    (NoPoint, "rod", (0,)),
    (NoRod, "side", (2,)),
    (NoEnd, "mate", ((0, 2),)),
)


def do(yard, name, args):
    """Calls the yard's method of that name."""
    return getattr(yard, name)(*args)
