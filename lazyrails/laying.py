"""Laying: a program as a yard whose engine runs as the program is read."""

from lazyrails.gadgets import doorway, fan, merge, tally
from lazyrails.program import check_counter, check_mark, check_row, check_stretch, check_value
from lazyrails.reach import onward
from lazyrails.yard import Yard


class Laid:
    """A laid program: its yard, and where its rows, marks and counters are in it."""

    def __init__(self, yard, doors, mark_rods, counter_rods):
        self.yard = yard
        self.doors = doors
        self.mark_rods = mark_rods
        self.counter_rods = counter_rods
        self.rows_at = {}
        for stretch, ends in enumerate(doors):
            for row, end in enumerate(ends):
                self.rows_at[end] = (stretch, row)

    def door(self, stretch, row):
        """The end that is the door of a row."""
        check_stretch(stretch, len(self.doors))
        check_row(row, len(self.doors[stretch]))
        return self.doors[stretch][row]

    def row_here(self):
        """The row at whose door the engine stands, as a tuple (stretch, row), or None."""
        return self.rows_at.get(self.yard.engine())

    def mark_rod(self, mark):
        """The rod of a mark."""
        check_mark(mark, len(self.mark_rods))
        return self.mark_rods[mark]

    def bit_rods(self, counter):
        """The rods of a counter, the one worth 1 first."""
        check_counter(counter, len(self.counter_rods))
        return list(self.counter_rods[counter])

    def lies(self, mark):
        """The side to which a mark lies."""
        return self.yard.side(self.mark_rod(mark))

    def reads(self, counter):
        """The number of a counter."""
        number = 0
        for rod in reversed(self.bit_rods(counter)):
            number = 2 * number + self.yard.side(rod) - 1
        return number

    def turn(self, mark, side):
        """Lays a mark to the side, by hand."""
        self.yard.throw(self.mark_rod(mark), side)

    def fill(self, counter, value):
        """Gives a counter a number, by hand."""
        rods = self.bit_rods(counter)
        check_value(value, len(rods))
        left = value
        for rod in rods:
            self.yard.throw(rod, left % 2 + 1)
            left //= 2


class Ways:
    """Ends that still lead nowhere, by where they are to lead."""

    def __init__(self, many):
        self.to_doors = {}
        # Of each stretch its calls, as tuples of the end that leads to it and the row to be come back to.
        self.to_stretches = [[] for stretch in range(many)]
        self.to_callers = [[] for stretch in range(many)]

    def lead(self, end, place):
        """Enters an end that is to lead to the door of a row."""
        self.to_doors.setdefault(place, []).append(end)


def lay_out(program):
    """Lays a program as a yard; the engine stands at its first door."""
    yard = Yard()
    mark_rods = [yard.new_rod(side) for side in program.marks()]
    counter_rods = [[yard.new_rod() for bit in range(width)] for width in program.widths()]
    doors = []
    for stretch in range(program.many()):
        doors.append([(yard.lay("line"), 0) for row in program.rows(stretch)])
    laid = Laid(yard, doors, mark_rods, counter_rods)
    lay_ways(laid, program)
    yard.put(laid.door(0, 0))
    return laid


def lay_ways(laid, program):
    """Leads the engine from each door to the doors of the rows that may come next."""
    ways = Ways(program.many())
    for stretch in range(program.many()):
        for number, row in enumerate(program.rows(stretch)):
            lay_row(laid, ways, row, stretch, number)
    for stretch in range(program.many()):
        lay_calls(laid.yard, ways, stretch)
    for place, outs in ways.to_doors.items():
        stretch, number = place
        merge(laid.yard, outs, laid.door(stretch, number))


def lay_row(laid, ways, row, stretch, number):
    """Lays what a row does behind its door, and enters the ways that lead on from there."""
    out = (laid.door(stretch, number)[0], 1)
    if row[0] == "call":
        ways.to_stretches[row[1]].append((out, (stretch, number + 1)))
    elif row[0] == "end":
        ways.to_callers[stretch].append(out)
    else:
        for end, place in zip(lay_deed(laid, row, out), onward(row, stretch, number)):
            ways.lead(end, place)


def lay_deed(laid, row, out):
    """Lays the deed of a row behind the end; tells the ends by which one leaves it, in the order of onward."""
    yard = laid.yard
    word = row[0]
    if word == "bell":
        bell = yard.lay("bell", row[1])
        yard.link(out, (bell, 0))
        return [(bell, 1)]
    if word == "set":
        # Passed by an arm, a lazy point lays the mark's rod to that arm, wherever it lay.
        point = yard.lay("lazy", rod=laid.mark_rod(row[1]))
        yard.link(out, (point, row[2]))
        return [(point, 0)]
    if word == "ask":
        point = yard.lay("still", rod=laid.mark_rod(row[1]))
        yard.link(out, (point, 0))
        return [(point, 1), (point, 2)]
    if word == "bump":
        into, done, around = tally(yard, laid.bit_rods(row[1]))
        yard.link(out, into)
        return [done, around]
    return [out]


def lay_calls(yard, ways, stretch):
    """Leads all calls of a stretch to its first row, and its ends to the row behind the call gone over last."""
    calls = ways.to_stretches[stretch]
    if not calls:
        # Where nobody calls, nothing is to be come back to: so it is with stretch 0.
        merge(yard, ways.to_callers[stretch], (yard.lay("stop"), 0))
        return
    # No stretch is called while it is at work, so the leaf gone in at last is the one to go out at.
    root, leaves = fan(yard, len(calls))
    merge(yard, ways.to_callers[stretch], lay_doorway(yard, ways, root, (stretch, 0)))
    for leaf, (out, behind) in zip(leaves, calls):
        yard.link(out, lay_doorway(yard, ways, leaf, behind))


def lay_doorway(yard, ways, end, place):
    """Lays a doorway at the end, out of which one comes to the row; tells the end by which one goes in."""
    both, inward, outward = doorway(yard)
    yard.link(both, end)
    ways.lead(outward, place)
    return inward
