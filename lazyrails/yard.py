"""The yard: pieces, the rods that points sit on, the links between ends, and the engine."""

from lazyrails.errors import Linked, NoBell, NoPiece, NoPoint, NoRod, NotLinked, Occupied, SameEnd
from lazyrails.points import check_end, check_note, check_side, ends_of, is_point


class Yard:
    """An empty yard, the engine off."""

    def __init__(self):
        # Counted apart from the pieces that are there: no number comes again behind a lifting.
        self.next_piece = 0
        self.kinds = {}
        self.notes = {}
        self.rods_under = {}
        self.sides = []
        self.mates = {}
        self.engine_end = None
        self.rung = []
        self.trail = []

    def lay(self, kind, note=0, rod=None):
        """Lays a piece and tells its number; a point without a rod gets one of its own."""
        point = is_point(kind)
        if kind == "bell":
            check_note(note)
        if point and rod is not None:
            self.check_rod(rod)
        piece = self.next_piece
        self.next_piece += 1
        self.kinds[piece] = kind
        if kind == "bell":
            self.notes[piece] = note
        if point:
            self.rods_under[piece] = self.new_rod() if rod is None else rod
        self.end_trail()
        return piece

    def new_rod(self, side=1):
        """Makes a rod that lies to the side and tells its number."""
        check_side(side)
        self.sides.append(side)
        self.end_trail()
        return len(self.sides) - 1

    def lift(self, piece):
        """Takes away a piece that is not linked and at which the engine doesn't stand."""
        self.check_piece(piece)
        for end in range(ends_of(self.kinds[piece])):
            if (piece, end) in self.mates:
                raise Linked(f"the end {end} of piece {piece} is linked")
        if self.engine_end is not None and self.engine_end[0] == piece:
            raise Occupied(f"the engine stands at piece {piece}")
        del self.kinds[piece]
        self.notes.pop(piece, None)
        self.rods_under.pop(piece, None)
        self.end_trail()

    def link(self, one, other):
        """Makes two ends mates."""
        self.check_there(one)
        self.check_there(other)
        if one == other:
            raise SameEnd(f"{one} can't be linked to itself")
        for end in (one, other):
            if end in self.mates:
                raise Linked(f"{end} is linked")
        self.mates[one] = other
        self.mates[other] = one
        self.end_trail()

    def unlink(self, end):
        """Parts an end and its mate."""
        self.check_there(end)
        if end not in self.mates:
            raise NotLinked(f"{end} is not linked")
        other = self.mates[end]
        del self.mates[end]
        del self.mates[other]
        self.end_trail()

    def throw(self, rod, side):
        """Lays a rod, and so all points on it, to the side."""
        self.check_rod(rod)
        check_side(side)
        self.sides[rod] = side
        self.end_trail()

    def put(self, end):
        """Puts the engine at an end, wherever it was."""
        self.check_there(end)
        self.engine_end = end
        self.end_trail()

    def off(self):
        """Takes the engine off the yard."""
        self.engine_end = None
        self.end_trail()

    def carry(self, end, side):
        """Carries a step out: the engine, which is on the yard, passes its piece and then stands at the end.

        A point's rod then lies to the side; no other kind of piece looks at it.
        """
        piece = self.engine_end[0]
        rod = self.rods_under.get(piece)
        # Enough to take the step back: the trail ends with any deed that could change the piece itself.
        self.trail.append((self.engine_end, None if rod is None else self.sides[rod]))
        if rod is not None:
            self.sides[rod] = side
        if piece in self.notes:
            self.rung.append(self.notes[piece])
        self.engine_end = end

    def take_back(self):
        """Takes back the last step of the trail, which has one."""
        end, side = self.trail.pop()
        piece = end[0]
        if piece in self.rods_under:
            self.sides[self.rods_under[piece]] = side
        if piece in self.notes:
            self.rung.pop()
        self.engine_end = end

    def make_twin(self):
        """Another yard, like this one but for its trail."""
        other = Yard()
        other.next_piece = self.next_piece
        other.kinds = dict(self.kinds)
        other.notes = dict(self.notes)
        other.rods_under = dict(self.rods_under)
        other.sides = list(self.sides)
        other.mates = dict(self.mates)
        other.engine_end = self.engine_end
        other.rung = list(self.rung)
        return other

    def pieces(self):
        """The numbers of the pieces that are there, rising."""
        # Pieces are laid by rising numbers, and a dict keeps that order.
        return list(self.kinds)

    def rods(self):
        """The numbers of the rods, rising."""
        return list(range(len(self.sides)))

    def kind(self, piece):
        """The kind of a piece."""
        self.check_piece(piece)
        return self.kinds[piece]

    def note(self, piece):
        """The note of a bell."""
        self.check_piece(piece)
        if piece not in self.notes:
            raise NoBell(f"piece {piece} is not a bell")
        return self.notes[piece]

    def rod(self, piece):
        """The rod that a point sits on."""
        self.check_piece(piece)
        if piece not in self.rods_under:
            raise NoPoint(f"piece {piece} is not a point")
        return self.rods_under[piece]

    def side(self, rod):
        """The side to which a rod lies."""
        self.check_rod(rod)
        return self.sides[rod]

    def mate(self, end):
        """The end to which an end is linked, or None."""
        self.check_there(end)
        return self.mates.get(end)

    def engine(self):
        """The end at which the engine stands, or None."""
        return self.engine_end

    def bells(self):
        """The notes rung since the yard was made, in order."""
        return list(self.rung)

    def steps(self):
        """How many steps the trail has."""
        return len(self.trail)

    def end_trail(self):
        """Empties the trail, as each deed by hand does."""
        self.trail = []

    def check_piece(self, piece):
        """Refuses a piece that is not there."""
        if piece not in self.kinds:
            raise NoPiece(f"no piece {piece}")

    def check_rod(self, rod):
        """Refuses a rod that is not there."""
        if rod < 0 or rod >= len(self.sides):
            raise NoRod(f"no rod {rod}")

    def check_there(self, end):
        """Refuses an end whose piece is not there, then one that its piece doesn't have."""
        piece, place = end
        self.check_piece(piece)
        check_end(self.kinds[piece], place)
