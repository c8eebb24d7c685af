"""What the tests of yards share: all that a yard tells, and yards to ask."""

from lazyrails.points import ends_of, is_point
from lazyrails.yard import Yard


def told(yard):
    """All that can be asked of a yard, as one value to compare."""
    kinds = {piece: yard.kind(piece) for piece in yard.pieces()}
    return {
        "kinds": kinds,
        "notes": {piece: yard.note(piece) for piece in kinds if kinds[piece] == "bell"},
        "rods of points": {piece: yard.rod(piece) for piece in kinds if is_point(kinds[piece])},
        "sides": {rod: yard.side(rod) for rod in yard.rods()},
        "mates": {
            (piece, end): yard.mate((piece, end)) for piece in kinds for end in range(ends_of(kinds[piece]))
        },
        "engine": yard.engine(),
        "bells": list(yard.bells()),
        "steps": yard.steps(),
    }


def told_without_trail(yard):
    """All that another yard must tell that is like this one but for its trail."""
    found = told(yard)
    found["steps"] = 0
    return found


def numbers_to_come(yard):
    """The numbers of the next piece and the next rod. The yard is used up by asking."""
    return (yard.lay("line"), yard.new_rod())


def stepped_yard():
    """A yard with each kind of piece, one piece lifted, notes rung, and two steps in its trail.

    Pieces: 0 line, 1 bell, 2 lazy (rod 0), 4 still (rod 1), 5 stop, 6 turning (rod 1); 3 was lifted.
    """
    yard = Yard()
    yard.lay("line")
    yard.lay("bell", 7)
    yard.lay("lazy")
    yard.lay("line")
    yard.lay("still")
    yard.lay("stop")
    yard.lay("turning", rod=1)
    yard.lift(3)
    yard.link((0, 1), (1, 0))
    yard.link((1, 1), (2, 2))
    yard.link((2, 0), (0, 0))
    yard.put((1, 0))
    yard.carry((2, 2), 1)
    yard.carry((0, 0), 2)
    return yard
