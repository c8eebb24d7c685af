"""The rows of a program that are reached by its text alone, and the program without the others."""

from lazyrails.program import Program


def onward(row, stretch, number):
    """The rows on to which a row may go that stands at this number of the stretch, as tuples (stretch, row)."""
    word = row[0]
    behind = (stretch, number + 1)
    if word == "ask":
        return [(stretch, row[2]), (stretch, row[3])]
    if word == "bump":
        return [behind, (stretch, row[2])]
    if word == "go":
        return [(stretch, row[1])]
    if word == "call":
        return [(row[1], 0), behind]
    if word == "end":
        return []
    return [behind]


def reached(program):
    """The reached rows, as tuples (stretch, row), rising."""
    seen = set()
    waiting = [(0, 0)]
    while waiting:
        stretch, number = waiting.pop()
        if (stretch, number) not in seen:
            seen.add((stretch, number))
            waiting.extend(onward(program.row_at(stretch, number), stretch, number))
    return sorted(seen)


def trimmed(program):
    """The program of the reached rows alone, numbered anew."""
    kept = {}
    for stretch, number in reached(program):
        kept.setdefault(stretch, []).append(number)
    # Rising, as the reached rows are: so stretches and rows stay in their order.
    new_stretches = numbered_anew(list(kept))
    stretches = []
    for stretch, numbers in kept.items():
        new_rows = numbered_anew(numbers)
        rows = [renamed(program.row_at(stretch, number), new_rows, new_stretches) for number in numbers]
        stretches.append(rows)
    return Program(program.marks(), program.widths(), stretches)


def numbered_anew(numbers):
    """For each of the numbers its new one, from 0 on."""
    return {number: new for new, number in enumerate(numbers)}


def renamed(row, new_rows, new_stretches):
    """The row with the new numbers of the rows and stretches that it names."""
    word = row[0]
    if word == "ask":
        return (word, row[1], new_rows[row[2]], new_rows[row[3]])
    if word == "bump":
        return (word, row[1], new_rows[row[2]])
    if word == "go":
        return (word, new_rows[row[1]])
    if word == "call":
        return (word, new_stretches[row[1]])
    return row
