"""What the tests of programs share: programs, and a second way of reading them."""

import random

from lazyrails.program import Program
from lazyrails.reach import reached

FAR = 10 ** 39

# A program with each kind of row, two marks, two counters, calls within calls, and rows that are not reached.
MARKS = [1, 2]
WIDTHS = [1, 3]
STRETCHES = [
    [("bell", 10), ("call", 1), ("ask", 0, 3, 5), ("set", 0, 2), ("go", 1), ("bump", 1, 8), ("call", 2), ("go", 5),
     ("end",), ("bell", 999), ("go", 9)],
    [("bell", 20), ("call", 2), ("call", 2), ("bell", 21), ("end",)],
    [("bump", 0, 2), ("ask", 1, 3, 2), ("end",), ("bell", 0), ("end",)],
    [("bell", 9999), ("end",)],
]


def sample():
    return Program(MARKS, WIDTHS, STRETCHES)


def random_row(chance, marks, widths, stretch, many, size, last):
    """A row that a stretch of so many rows may have, among so many stretches."""
    words = ["ask"] if marks else []
    words += ["go", "end"]
    if not last:
        words += ["bell", "bell"] + ["set", "ask"] * bool(marks) + ["bump", "bump"] * bool(widths)
        words += ["call", "call"] * (stretch + 1 < many)
    word = chance.choice(words)
    if word == "bell":
        return (word, chance.randrange(10000))
    if word == "set":
        return (word, chance.randrange(len(marks)), chance.choice((1, 2)))
    if word == "ask":
        return (word, chance.randrange(len(marks)), chance.randrange(size), chance.randrange(size))
    if word == "bump":
        return (word, chance.randrange(len(widths)), chance.randrange(size))
    if word == "go":
        return (word, chance.randrange(size))
    if word == "call":
        return (word, chance.randrange(stretch + 1, many))
    return (word,)


def random_program(seed, most_stretches=5, most_rows=9):
    """A program of any rows."""
    chance = random.Random(seed)
    marks = [chance.choice((1, 2)) for mark in range(chance.randrange(4))]
    widths = [chance.randrange(1, 4) for counter in range(chance.randrange(4))]
    many = chance.randrange(1, most_stretches + 1)
    stretches = []
    for stretch in range(many):
        size = chance.randrange(1, most_rows + 1)
        stretches.append([
            random_row(chance, marks, widths, stretch, many, size, row == size - 1) for row in range(size)
        ])
    return Program(marks, widths, stretches)


def chain(many):
    """A program of so many stretches, each of which calls the next one twice, but for the last, which rings."""
    return Program([], [], [[("call", at + 1), ("call", at + 1), ("end",)] for at in range(many - 1)] + [
        [("bell", many), ("end",)]
    ])


def counting(width):
    """A program that rings for each number of its counter, and ends where that comes round."""
    return Program([], [width], [[("bell", 1), ("bump", 0, 3), ("go", 0), ("end",)]])


def greatest_program():
    """Forty stretches of a hundred rows, thirty marks, thirty counters of the widths 1 to 8.

    Each stretch but the last calls the next one and the last one; all of them ring, set, ask and bump.
    """
    stretches = []
    for stretch in range(40):
        rows = []
        while len(rows) < 96:
            at = len(rows)
            rows.append(("bell", 100 * stretch + at))
            rows.append(("set", (stretch + at) % 30, 1 + at // 4 % 2))
            rows.append(("ask", (3 * stretch + at) % 30, at + 3, at + 4 if at < 92 else at + 3))
            rows.append(("bump", (stretch + at // 4) % 30, at + 4))
        rows.append(("call", 39) if stretch < 39 else ("bell", 9999))
        rows.append(("call", stretch + 1) if stretch < 39 else ("bell", 0))
        rows.append(("bump", stretch % 30, 99))
        rows.append(("end",))
        stretches.append(rows)
    return Program([1 + mark % 2 for mark in range(30)], [1 + counter % 8 for counter in range(30)], stretches)


class Plain:
    """A reading told another way: a call of a stretch is a call in Python, and nothing keeps the place."""

    def __init__(self, program):
        self.program = program
        self.marks = program.marks()
        self.counts = [0] * len(program.widths())
        self.heard = []

    def places(self):
        """The places in turn, each with the rows to be come back to; None at the end, again and again."""
        yield from self.places_in(0, [])
        while True:
            yield None, []

    def places_in(self, stretch, callers):
        rows = self.program.rows(stretch)
        at = 0
        while True:
            yield (stretch, at), callers
            word, *parts = rows[at]
            at += 1
            if word == "bell":
                self.heard.append(parts[0])
            elif word == "set":
                self.marks[parts[0]] = parts[1]
            elif word == "ask":
                at = parts[self.marks[parts[0]]]
            elif word == "bump":
                self.counts[parts[0]] = (self.counts[parts[0]] + 1) % 2 ** self.program.widths()[parts[0]]
                if self.counts[parts[0]] == 0:
                    at = parts[1]
            elif word == "go":
                at = parts[0]
            elif word == "call":
                yield from self.places_in(parts[0], callers + [(stretch, at)])
            else:
                return


def anew_by_place(program):
    """For each reached row its place in the trimmed program; None, the place behind the end, stays."""
    places = reached(program)
    kept = sorted({stretch for stretch, row in places})
    anew = {None: None}
    for stretch, row in places:
        rows = [at for found, at in places if found == stretch]
        anew[(stretch, row)] = (kept.index(stretch), rows.index(row))
    return anew


def told_program(program):
    """All that can be asked of a program, in lists that are surely not the program's own."""
    return (list(program.marks()), list(program.widths()), [list(program.rows(at)) for at in range(program.many())])


def told_reader(reader, program):
    """All that can be asked of a reader of the program, in lists that are surely not the reader's own."""
    return (
        reader.where(),
        list(reader.callers()),
        [reader.mark(mark) for mark in range(len(program.marks()))],
        [reader.counter(counter) for counter in range(len(program.widths()))],
        list(reader.heard()),
    )
