"""The reader, which reads a program plainly, row by row."""

from lazyrails.points import check_side
from lazyrails.program import check_counter, check_mark, check_value, greatest


class Reader:
    """A reader at the beginning of a program."""

    def __init__(self, program):
        self.program = program
        self.place = (0, 0)
        self.returns = []
        self.mark_sides = program.marks()
        self.counter_widths = program.widths()
        self.counts = [0 for width in self.counter_widths]
        self.notes_heard = []

    def where(self):
        """The stretch and row that come next, or None where the program has ended."""
        return self.place

    def callers(self):
        """The rows to be come back to, the outermost first."""
        return list(self.returns)

    def mark(self, mark):
        """The side to which a mark lies."""
        check_mark(mark, len(self.mark_sides))
        return self.mark_sides[mark]

    def counter(self, counter):
        """The number of a counter."""
        check_counter(counter, len(self.counts))
        return self.counts[counter]

    def heard(self):
        """The notes heard, in order."""
        return list(self.notes_heard)

    def step(self):
        """Reads one row; False, and nothing is done, where the program has ended."""
        if self.place is None:
            return False
        stretch, number = self.place
        self.place = self.place_behind(self.program.row_at(stretch, number), stretch, number)
        return True

    def go_on(self, most):
        """Reads at most so many rows; tells how many were read."""
        done = 0
        while done < most and self.step():
            done += 1
        return done

    def turn(self, mark, side):
        """Lays a mark to the side."""
        check_mark(mark, len(self.mark_sides))
        check_side(side)
        self.mark_sides[mark] = side

    def fill(self, counter, value):
        """Gives a counter a number."""
        check_counter(counter, len(self.counts))
        check_value(value, self.counter_widths[counter])
        self.counts[counter] = value

    def place_behind(self, row, stretch, number):
        """Does what the row says, and tells the place that comes next."""
        word = row[0]
        behind = (stretch, number + 1)
        if word == "bell":
            self.notes_heard.append(row[1])
        elif word == "set":
            self.mark_sides[row[1]] = row[2]
        elif word == "ask":
            return (stretch, row[2] if self.mark_sides[row[1]] == 1 else row[3])
        elif word == "bump":
            return (stretch, row[2]) if self.bump(row[1]) else behind
        elif word == "go":
            return (stretch, row[1])
        elif word == "call":
            self.returns.append(behind)
            return (row[1], 0)
        elif word == "end":
            # Stretch 0 is never called, and only there nothing is to be come back to.
            return self.returns.pop() if self.returns else None
        return behind

    def bump(self, counter):
        """Makes a counter one more; whether it came round to 0."""
        count = self.counts[counter]
        around = count == greatest(self.counter_widths[counter])
        self.counts[counter] = 0 if around else count + 1
        return around
