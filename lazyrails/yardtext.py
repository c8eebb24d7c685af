"""The text of a yard, written and read."""

from lazyrails.errors import NoText, RailError
from lazyrails.figures import read_line, write_line
from lazyrails.points import check_note, ends_of, is_point
from lazyrails.yard import Yard

# For each word with which a line begins, how many numbers stand behind it; behind "rung" there may be any but none.
SIZES = {
    "next": 2,
    "rod": 2,
    "line": 1,
    "stop": 1,
    "bell": 2,
    "still": 2,
    "lazy": 2,
    "turning": 2,
    "link": 4,
    "engine": 2,
}
# Which lines come ahead of which others.
GROUPS = {
    "next": 0,
    "rod": 1,
    "line": 2,
    "stop": 2,
    "bell": 2,
    "still": 2,
    "lazy": 2,
    "turning": 2,
    "link": 3,
    "engine": 4,
    "rung": 5,
}


def write_yard(yard):
    """The text of a yard."""
    lines = [write_line("next", [yard.next_piece, len(yard.sides)])]
    for rod in yard.rods():
        lines.append(write_line("rod", [rod, yard.side(rod)]))
    for piece in yard.pieces():
        lines.append(piece_line(yard, piece))
    lines.extend(link_lines(yard))
    if yard.engine() is not None:
        lines.append(write_line("engine", yard.engine()))
    if yard.bells():
        lines.append(write_line("rung", yard.bells()))
    return "\n".join(lines)


def piece_line(yard, piece):
    """The line of a piece."""
    kind = yard.kind(piece)
    if kind == "bell":
        return write_line(kind, [piece, yard.note(piece)])
    if is_point(kind):
        return write_line(kind, [piece, yard.rod(piece)])
    return write_line(kind, [piece])


def link_lines(yard):
    """The lines of the links, each at the lesser of its two ends."""
    lines = []
    for piece in yard.pieces():
        for end in range(ends_of(yard.kind(piece))):
            mate = yard.mate((piece, end))
            if mate is not None and (piece, end) < mate:
                lines.append(write_line("link", [piece, end, mate[0], mate[1]]))
    return lines


def read_yard(text):
    """The yard whose text it is."""
    rows = [read_row(line) for line in text.split("\n")]
    check_order(rows)
    try:
        return build(rows)
    except RailError as error:
        # Whatever a yard refuses, its text can't say.
        raise NoText(str(error)) from None


def read_row(line):
    """A tuple of the word of a line and its numbers, as many as the word asks for."""
    word, numbers = read_line(line)
    if not has_its_numbers(word, numbers):
        raise NoText(f"no line is {word!r} with {len(numbers)} numbers")
    return (word, numbers)


def has_its_numbers(word, numbers):
    """Whether a line may have the word with so many numbers behind it."""
    if word == "rung":
        return len(numbers) > 0
    return word in SIZES and len(numbers) == SIZES[word]


def check_order(rows):
    """Refuses rows that don't begin with the next numbers, or that don't rise from each one to the next."""
    if rows[0][0] != "next":
        raise NoText("the next numbers come first")
    for at in range(1, len(rows)):
        # Strictly: so nothing comes twice either.
        if rank(rows[at]) <= rank(rows[at - 1]):
            raise NoText(f"line {at + 1} is out of order")


def rank(row):
    """What rises from row to row: the group, and in it the number or the end by which the group is ordered."""
    word, numbers = row
    group = GROUPS[word]
    if word == "link":
        return (group, numbers[0], numbers[1])
    if word in ("next", "engine", "rung"):
        # Of these there is one at most, so a second one must not rank above the first, whatever its numbers are.
        return (group, 0, 0)
    return (group, numbers[0], 0)


def build(rows):
    """The yard of rows that are in order."""
    yard = Yard()
    next_piece, next_rod = rows[0][1]
    for word, numbers in rows[1:]:
        enter(yard, word, numbers)
    if len(yard.sides) != next_rod:
        raise NoText("the rods are not all those ahead of the next one")
    if yard.next_piece > next_piece:
        raise NoText("a piece is not ahead of the next one")
    yard.next_piece = next_piece
    return yard


def enter(yard, word, numbers):
    """Enters in the yard what a row says."""
    if word == "rod":
        if yard.new_rod(numbers[1]) != numbers[0]:
            raise NoText(f"rod {numbers[0]} is out of order")
    elif word == "link":
        enter_link(yard, (numbers[0], numbers[1]), (numbers[2], numbers[3]))
    elif word == "engine":
        yard.put((numbers[0], numbers[1]))
    elif word == "rung":
        for note in numbers:
            check_note(note)
        yard.rung = list(numbers)
    else:
        enter_piece(yard, word, numbers)


def enter_link(yard, one, other):
    """Links two ends, the lesser one first."""
    if other < one:
        raise NoText(f"{one} is the greater end")
    yard.link(one, other)


def enter_piece(yard, kind, numbers):
    """Lays a piece under its number, which is not less than those that were laid."""
    yard.next_piece = numbers[0]
    # A bell looks at its note alone, a point at its rod alone, and a line or a stop at neither.
    yard.lay(kind, note=numbers[-1], rod=numbers[-1])
