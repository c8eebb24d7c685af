"""The text of a program, written and read."""

from lazyrails.errors import NoText
from lazyrails.figures import read_line, write_line
from lazyrails.program import PARTS, Program


def write_program(program):
    """The text of a program."""
    lines = [write_line("marks", program.marks()), write_line("widths", program.widths())]
    for stretch in range(program.many()):
        lines.append("stretch")
        for row in program.rows(stretch):
            lines.append(write_line(row[0], row[1:]))
    return "\n".join(lines)


def read_program(text):
    """The program whose text it is."""
    lines = [read_line(line) for line in text.split("\n")]
    if [word for word, numbers in lines[:2]] != ["marks", "widths"]:
        raise NoText("marks and widths come first")
    stretches = []
    for word, numbers in lines[2:]:
        if word == "stretch" and not numbers:
            stretches.append([])
        elif stretches:
            stretches[-1].append(row_of(word, numbers))
        else:
            raise NoText("a stretch comes ahead of its rows")
    return Program(lines[0][1], lines[1][1], stretches)


def row_of(word, numbers):
    """The row of a word and its numbers."""
    if word not in PARTS or len(numbers) != len(PARTS[word]):
        raise NoText(f"no row is {word!r} with {len(numbers)} numbers")
    return tuple([word] + numbers)
