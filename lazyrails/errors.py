"""The refusals: each is straight under RailError, so that one is never caught as another."""


class RailError(ValueError):
    """Any refusal."""


class NoKind(RailError):
    """A text that is none of the six kinds of pieces."""


class NoEnd(RailError):
    """An end that the piece doesn't have."""


class NoSide(RailError):
    """A side that is not 1 or 2."""


class NoNote(RailError):
    """A note that is not from 0 to 9999."""


class NoPiece(RailError):
    """A piece that is not there."""


class NoRod(RailError):
    """A rod that is not there."""


class NoPoint(RailError):
    """A piece that is not a point."""


class NoBell(RailError):
    """A piece that is not a bell."""


class SameEnd(RailError):
    """An end that would be linked to itself."""


class Linked(RailError):
    """An end that has a mate already."""


class NotLinked(RailError):
    """An end that has no mate."""


class Occupied(RailError):
    """A piece at which the engine stands."""


class NoStand(RailError):
    """A stand that is not on the shelf."""


class NoMany(RailError):
    """A number of leaves below 1."""


class NoStretch(RailError):
    """A stretch that is not there, or that must not be called from here."""


class NoRow(RailError):
    """A row that the stretch doesn't have."""


class NoMark(RailError):
    """A mark that is not there."""


class NoCounter(RailError):
    """A counter that is not there."""


class NoWidth(RailError):
    """A counter's width that is not from 1 to 8."""


class NoValue(RailError):
    """A number that the counter can't have."""


class FallsOut(RailError):
    """A stretch whose reading would run out behind its last row."""


class NoText(RailError):
    """A text that doesn't have the form asked for."""
