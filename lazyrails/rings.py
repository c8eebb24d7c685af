"""The fate of a yard: whether its engine comes to be held, goes round, or neither within so many steps."""

from lazyrails.engine import held, run
from lazyrails.stands import twin


def fate(yard, most):
    """("held", why, steps), ("round", begin, length) or ("open", many), as it comes within so many steps."""
    limit = max(most, 0)
    # The fast one does two steps for each of the slow one. On a round it comes upon the slow one from behind, so
    # that no stand on the way needs to be kept; a round that closes within the limit is found within it.
    slow = twin(yard)
    fast = twin(yard)
    slow_steps = fast_steps = 0
    while slow_steps < limit:
        done = run(fast, 2)
        fast_steps += done
        if done < 2:
            break
        slow_steps += run(slow, 1)
        if alike(slow, fast):
            return fate_on_round(yard, slow, limit)
    why = held(fast)
    if why is not None and fast_steps <= limit:
        return ("held", why, fast_steps)
    return ("open", limit)


def fate_on_round(yard, ahead, limit):
    """The fate of a yard that goes round, where the other yard is the same one, whole rounds of steps ahead of it."""
    first = twin(yard)
    begin = 0
    while not alike(first, ahead):
        begin += run(first, 1)
        run(ahead, 1)
    length = run(ahead, 1)
    while not alike(first, ahead):
        length += run(ahead, 1)
    if begin + length > limit:
        return ("open", limit)
    return ("round", begin, length)


def alike(one, other):
    """Whether the engines' ends and the sides of all rods are the same."""
    return one.engine() == other.engine() and one.sides == other.sides
