"""Builders: what is laid and linked of several pieces to do one thing."""

from lazyrails.errors import NoMany


def merge(yard, outs, end):
    """Leads all of the ends to the one end, over points that are passed from arm to stem alone."""
    if not outs:
        return
    waiting = list(outs)
    # What is joined goes to the back, so that no way over the points is much longer than another.
    while len(waiting) > 1:
        point = yard.lay("still")
        yard.link(waiting[0], (point, 1))
        yard.link(waiting[1], (point, 2))
        waiting = waiting[2:] + [(point, 0)]
    yard.link(waiting[0], end)


def doorway(yard):
    """A tuple of ends (both, inward, outward): in at inward is out at both, in at both is out at outward."""
    # A new rod lies to side 1, and a still point leaves it so.
    point = yard.lay("still")
    return ((point, 0), (point, 2), (point, 1))


def fan(yard, many):
    """A tuple of the root's end and the list of the leaves' ends: in at the root is out at the leaf last gone in at."""
    if many < 1:
        raise NoMany(f"no fan has {many} leaves")
    line = yard.lay("line")
    leaves = [(line, 1)]
    # The oldest leaf is split each time, so that all leaves are about as far from the root.
    while len(leaves) < many:
        point = yard.lay("lazy")
        yard.link(leaves[0], (point, 0))
        leaves = leaves[1:] + [(point, 1), (point, 2)]
    return ((line, 0), leaves)


def tally(yard, rods):
    """A tuple of ends (into, done, around): in at into makes the number that the rods read one more."""
    entry = yard.lay("line")
    over = (entry, 1)
    arms = []
    # A rod turned from 1 to 2 is the last to be turned; one turned from 2 to 1 hands on to the next.
    for rod in rods:
        point = yard.lay("turning", rod=rod)
        yard.link(over, (point, 0))
        arms.append((point, 1))
        over = (point, 2)
    leave = yard.lay("line")
    merge(yard, arms, (leave, 0))
    return ((entry, 0), (leave, 1), over)
