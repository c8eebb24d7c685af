"""The kinds of pieces, and how an engine passes each of them."""

from lazyrails.errors import NoEnd, NoKind, NoNote, NoSide

ENDS = {"line": 2, "bell": 2, "stop": 1, "still": 3, "lazy": 3, "turning": 3}
POINTS = ("still", "lazy", "turning")
STEM = 0
LAST_NOTE = 9999


def ends_of(kind):
    """How many ends a piece of the kind has."""
    if kind not in ENDS:
        raise NoKind(f"no such kind of piece: {kind!r}")
    return ENDS[kind]


def is_point(kind):
    """Whether a piece of the kind is a point."""
    if kind not in ENDS:
        raise NoKind(f"no such kind of piece: {kind!r}")
    return kind in POINTS


def check_end(kind, end):
    """Refuses a text that is no kind, then an end that the kind doesn't have."""
    # Asked ahead of the comparison, which would not come to ask it for an end below 0.
    many = ends_of(kind)
    if end < 0 or end >= many:
        raise NoEnd(f"a {kind} has no end {end}")


def check_side(side):
    """Refuses a side to which nothing can lie."""
    if side != 1 and side != 2:
        raise NoSide(f"no side {side}")


def check_note(note):
    """Refuses a note that no bell can have."""
    if note < 0 or note > LAST_NOTE:
        raise NoNote(f"no note {note}")


def passage(kind, end, side):
    """The end by which one goes out that goes in by end (None at a stop), and the side behind that."""
    check_end(kind, end)
    if is_point(kind):
        check_side(side)
        return point_passage(kind, end, side)
    if kind == "stop":
        return (None, side)
    return (1 - end, side)


def point_passage(kind, end, side):
    """The passage of a point, of an end and a side that are known to be right."""
    if end == STEM:
        return (side, 3 - side if kind == "turning" else side)
    return (STEM, end if kind == "lazy" else side)
