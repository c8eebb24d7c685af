"""Running told another way, to compare: by a table of passages and whole stands that are kept."""

import random

from lazyrails.points import ends_of, is_point
from lazyrails.yard import Yard

# (kind, end, side): (end by which one goes out, side behind). Kinds without a side have side 0 here.
PASSAGES = {
    ("line", 0, 0): (1, 0), ("line", 1, 0): (0, 0),
    ("bell", 0, 0): (1, 0), ("bell", 1, 0): (0, 0),
    ("still", 0, 1): (1, 1), ("still", 0, 2): (2, 2),
    ("still", 1, 1): (0, 1), ("still", 1, 2): (0, 2),
    ("still", 2, 1): (0, 1), ("still", 2, 2): (0, 2),
    ("lazy", 0, 1): (1, 1), ("lazy", 0, 2): (2, 2),
    ("lazy", 1, 1): (0, 1), ("lazy", 1, 2): (0, 1),
    ("lazy", 2, 1): (0, 2), ("lazy", 2, 2): (0, 2),
    ("turning", 0, 1): (1, 2), ("turning", 0, 2): (2, 1),
    ("turning", 1, 1): (0, 1), ("turning", 1, 2): (0, 2),
    ("turning", 2, 1): (0, 1), ("turning", 2, 2): (0, 2),
}
KINDS = ("line", "bell", "stop", "still", "lazy", "turning")


def stand_of(yard):
    """What a step can change: the engine's end, the sides, the notes rung."""
    return (yard.engine(), tuple(yard.side(rod) for rod in yard.rods()), tuple(yard.bells()))


def step_plainly(yard, stand):
    """The word of what holds the engine, or the next stand."""
    end, sides, rung = stand
    if end is None:
        return "none"
    kind = yard.kind(end[0])
    if kind == "stop":
        return "stop"
    sides = list(sides)
    rod = yard.rod(end[0]) if is_point(kind) else None
    out, behind = PASSAGES[(kind, end[1], 0 if rod is None else sides[rod])]
    mate = yard.mate((end[0], out))
    if mate is None:
        return "loose"
    if rod is not None:
        sides[rod] = behind
    if kind == "bell":
        rung = rung + (yard.note(end[0]),)
    return (mate, tuple(sides), rung)


def stands_plainly(yard, most):
    """The stands from now on, at most so many steps on, and what holds the engine behind them (None: nothing)."""
    stands = [stand_of(yard)]
    while True:
        following = step_plainly(yard, stands[-1])
        if isinstance(following, str):
            return stands, following
        if len(stands) > most:
            return stands, None
        stands.append(following)


def fate_plainly(yard, most):
    """Point 11, with every stand kept."""
    most = max(most, 0)
    stands, why = stands_plainly(yard, most)
    if why is not None:
        return ("held", why, len(stands) - 1)
    seen = {}
    for at, (end, sides, rung) in enumerate(stands):
        if (end, sides) in seen:
            return ("round", seen[(end, sides)], at - seen[(end, sides)])
        seen[(end, sides)] = at
    return ("open", most)


def random_yard(seed, pieces=8, kinds=KINDS):
    """A yard of so many pieces, linked anyhow, some of its points on one rod, the engine somewhere."""
    chance = random.Random(seed)
    yard = Yard()
    rods = [yard.new_rod(chance.choice((1, 2))) for rod in range(chance.randrange(1, 4))]
    for piece in range(pieces):
        yard.lay(chance.choice(kinds), chance.randrange(10000), chance.choice(rods + [None]))
    ends = [(piece, end) for piece in yard.pieces() for end in range(ends_of(yard.kind(piece)))]
    chance.shuffle(ends)
    loose = chance.choice((0, 0, 0, 1, 2, 4))
    linked = ends[loose:]
    while len(linked) > 1:
        yard.link(linked.pop(), linked.pop())
    yard.put(chance.choice(ends))
    return yard
