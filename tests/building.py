"""What the tests of builders share: what stays where one builds, and where an engine comes out."""

from lazyrails.engine import held, run
from lazyrails.yard import Yard

FAR = 10 ** 39


def worn_yard():
    """A yard with pieces, links, rods to either side, notes rung, an engine and a step in its trail."""
    yard = Yard()
    yard.lay("bell", 5)
    yard.lay("lazy")
    yard.lay("turning")
    yard.lift(yard.lay("line"))
    yard.throw(1, 2)
    yard.new_rod(2)
    yard.new_rod(1)
    yard.link((0, 0), (0, 1))
    yard.put((0, 0))
    run(yard, 1)
    return yard


def was_there(yard, pieces, rods):
    """All that is told of those pieces and rods, and of engine and notes."""
    found = {"engine": yard.engine(), "bells": yard.bells(), "sides": [yard.side(rod) for rod in rods]}
    for piece in pieces:
        kind = yard.kind(piece)
        found[piece] = (kind, yard.rod(piece) if kind in ("still", "lazy", "turning") else None)
        for end in range({"stop": 1, "line": 2, "bell": 2}.get(kind, 3)):
            found[(piece, end)] = yard.mate((piece, end))
    return found


def close(yard, ends):
    """A stop at each of the ends; tells the end by its stop's end."""
    stops = {}
    for end in ends:
        stop = (yard.lay("stop"), 0)
        yard.link(end, stop)
        stops[stop] = end
    return stops


def out_of(yard, stops, end):
    """The end at which an engine goes out that goes in at this end, and rings nothing on its way."""
    rung = yard.bells()
    yard.put(end)
    run(yard, FAR)
    assert held(yard) == "stop", (yard.engine(), held(yard))
    assert yard.bells() == rung, yard.bells()
    return stops[yard.engine()]


def sides(yard):
    return [yard.side(rod) for rod in yard.rods()]
