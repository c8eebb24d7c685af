"""The engine's steps: what holds it, its running, and the taking back of what it ran."""

from lazyrails.points import is_point, passage


def next_step(yard):
    """A tuple of what holds the engine (None: nothing), the end to which the next step leads, and the side behind it.

    Where the engine is held, there is no such end and no such side: both are None.
    """
    stand = yard.engine()
    if stand is None:
        return ("none", None, None)
    piece, end = stand
    kind = yard.kind(piece)
    # A piece that is no point has no side; passage hands on what it is given for it.
    side = yard.side(yard.rod(piece)) if is_point(kind) else None
    out, behind = passage(kind, end, side)
    if out is None:
        return ("stop", None, None)
    mate = yard.mate((piece, out))
    if mate is None:
        return ("loose", None, None)
    return (None, mate, behind)


def held(yard):
    """Why the next step would not be done: "none", "stop" or "loose"; None where it would."""
    return next_step(yard)[0]


def run(yard, most):
    """Does steps until the engine is held or so many are done; tells how many were done."""
    done = 0
    while done < most:
        why, end, side = next_step(yard)
        if why is not None:
            break
        yard.carry(end, side)
        done += 1
    return done


def back(yard, most):
    """Takes the last steps of the trail back, at most so many; tells how many."""
    many = max(0, min(most, yard.steps()))
    for count in range(many):
        yard.take_back()
    return many
