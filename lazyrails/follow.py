"""Following the engine of a laid program from door to door."""

from lazyrails.engine import run


def next_row(laid):
    """Runs the engine to the next door and tells its row; None where it is held before it comes to one."""
    while run(laid.yard, 1) == 1:
        row = laid.row_here()
        if row is not None:
            return row
    return None


def follow(laid, most):
    """The rows to whose doors the engine came, at most so many; it ends earlier where the engine is held."""
    rows = []
    while len(rows) < most:
        row = next_row(laid)
        if row is None:
            break
        rows.append(row)
    return rows
