"""Programs: marks, counters and stretches of rows, refused at their first fault."""

from lazyrails.errors import FallsOut, NoCounter, NoMark, NoRow, NoStretch, NoValue, NoWidth
from lazyrails.points import check_note, check_side

# For each word with which a row begins, what the numbers behind it are.
PARTS = {
    "bell": ("note",),
    "set": ("mark", "side"),
    "ask": ("mark", "row", "row"),
    "bump": ("counter", "row"),
    "go": ("row",),
    "call": ("stretch",),
    "end": (),
}
# Behind any other row a reading may go on to the next one, which the last row of a stretch doesn't have.
LAST_WORDS = ("ask", "go", "end")
WIDEST = 8


def check_mark(mark, many):
    """Refuses a mark that is none of so many."""
    if mark < 0 or mark >= many:
        raise NoMark(f"no mark {mark}")


def check_counter(counter, many):
    """Refuses a counter that is none of so many."""
    if counter < 0 or counter >= many:
        raise NoCounter(f"no counter {counter}")


def check_width(width):
    """Refuses a width that no counter can have."""
    if width < 1 or width > WIDEST:
        raise NoWidth(f"no width {width}")


def check_stretch(stretch, many):
    """Refuses a stretch that is none of so many."""
    if stretch < 0 or stretch >= many:
        raise NoStretch(f"no stretch {stretch}")


def check_row(row, many):
    """Refuses a row that is none of so many."""
    if row < 0 or row >= many:
        raise NoRow(f"no row {row}")


def greatest(width):
    """The greatest number of a counter of the width."""
    return (1 << width) - 1


def check_value(value, width):
    """Refuses a number that a counter of the width can't have."""
    if value < 0 or value > greatest(width):
        raise NoValue(f"no counter of width {width} has the number {value}")


class Program:
    """A program without a fault."""

    def __init__(self, marks, widths, stretches):
        self.mark_sides = list(marks)
        self.counter_widths = list(widths)
        self.stretches = [list(rows) for rows in stretches]
        self.check_beginning()
        for stretch in range(self.many()):
            self.check_rows(stretch)

    def marks(self):
        """The sides to which the marks lie at the beginning."""
        return list(self.mark_sides)

    def widths(self):
        """The widths of the counters."""
        return list(self.counter_widths)

    def many(self):
        """How many stretches there are."""
        return len(self.stretches)

    def rows(self, stretch):
        """The rows of a stretch."""
        check_stretch(stretch, self.many())
        return list(self.stretches[stretch])

    def row_at(self, stretch, number):
        """One row of a stretch; both are there."""
        return self.stretches[stretch][number]

    def check_beginning(self):
        """Refuses the first fault in what stands ahead of the rows."""
        for side in self.mark_sides:
            check_side(side)
        for width in self.counter_widths:
            check_width(width)
        if not self.stretches:
            raise NoStretch("a program has a stretch")

    def check_rows(self, stretch):
        """Refuses the first fault in a stretch."""
        rows = self.stretches[stretch]
        if not rows:
            raise FallsOut(f"stretch {stretch} has no rows")
        for row in rows:
            for part, number in zip(PARTS[row[0]], row[1:]):
                self.check_part(part, number, stretch)
        if rows[-1][0] not in LAST_WORDS:
            raise FallsOut(f"stretch {stretch} goes on behind its last row")

    def check_part(self, part, number, stretch):
        """Refuses a number that is not such a part of a row of the stretch."""
        if part == "note":
            check_note(number)
        elif part == "mark":
            check_mark(number, len(self.mark_sides))
        elif part == "side":
            check_side(number)
        elif part == "counter":
            check_counter(number, len(self.counter_widths))
        elif part == "row":
            check_row(number, len(self.stretches[stretch]))
        else:
            self.check_called(number, stretch)

    def check_called(self, called, stretch):
        """Refuses a stretch that is not there or that must not be called from the other one."""
        check_stretch(called, self.many())
        # Calls lead to later stretches alone, so that none is ever called while it is at work.
        if called <= stretch:
            raise NoStretch(f"stretch {called} can't be called from stretch {stretch}")
