"""lazyrails.yardtext: point 22 of the document, and points 1 and 9 as far as they touch it."""

import random
import re
import unittest

from lazyrails.engine import back, run
from lazyrails.errors import NoText
from lazyrails.laying import lay_out
from lazyrails.yard import Yard
from lazyrails.yardtext import read_yard, write_yard
from tests.asking import numbers_to_come, stepped_yard, told, told_without_trail
from tests.deeds import DEEDS, REFUSED, do
from tests.plainly import random_yard
from tests.programs import random_program, sample

TEXT = """\
next 7 2
rod 0 2
rod 1 1
line 0
bell 1 7
lazy 2 0
still 4 1
stop 5
turning 6 1
link 0 0 2 0
link 0 1 1 0
link 1 1 2 2
engine 0 0
rung 7"""
FAR = 10 ** 60 - 1

NUMBER = "(?:0|[1-9][0-9]*)"
FORM = re.compile(
    "next N N(?:\nrod N N)*(?:\n(?:(?:line|stop) N|(?:bell|still|lazy|turning) N N))*(?:\nlink N N N N)*"
    "(?:\nengine N N)?(?:\nrung(?: N)+)?".replace("N", NUMBER)
)


def is_text(text):
    """Point 22 told another way: whether this is the text of a yard."""
    if not FORM.fullmatch(text):
        return False
    rows = [(line.split(" ")[0], [int(word) for word in line.split(" ")[1:]]) for line in text.split("\n")]
    next_piece, next_rod = rows[0][1]
    rods = [numbers for word, numbers in rows if word == "rod"]
    pieces = [(word, numbers) for word, numbers in rows if word in ("line", "stop", "bell", "still", "lazy", "turning")]
    links = [((a, b), (c, d)) for word, numbers in rows if word == "link" for a, b, c, d in [numbers]]
    engines = [tuple(numbers) for word, numbers in rows if word == "engine"]
    numbered = [numbers[0] for word, numbers in pieces]
    sizes = {"line": 2, "bell": 2, "stop": 1}
    ends = {(numbers[0], end) for word, numbers in pieces for end in range(sizes.get(word, 3))}
    linked = [end for link in links for end in link]
    notes = [numbers[1] for word, numbers in pieces if word == "bell"]
    notes += [note for word, numbers in rows if word == "rung" for note in numbers]
    return (
        [rod for rod, side in rods] == list(range(min(next_rod, len(rods) + 1)))
        and all(side in (1, 2) for rod, side in rods)
        and numbered == sorted(set(numbered))
        and all(piece < next_piece for piece in numbered)
        and all(numbers[1] < next_rod for word, numbers in pieces if word in ("still", "lazy", "turning"))
        and all(note <= 9999 for note in notes)
        and all(one < other for one, other in links)
        and links == sorted(links)
        and len(set(linked)) == len(linked)
        and set(linked) | set(engines) <= ends
    )


def without_engine():
    yard = Yard()
    yard.lay("line")
    yard.lay("stop")
    yard.link((0, 1), (1, 0))
    return yard


class Written(unittest.TestCase):
    def test_an_empty_yard(self):
        self.assertEqual(write_yard(Yard()), "next 0 0")

    def test_line_by_line(self):
        self.assertEqual(write_yard(stepped_yard()), TEXT)

    def test_without_engine_and_notes(self):
        self.assertEqual(write_yard(without_engine()), "next 2 0\nline 0\nstop 1\nlink 0 1 1 0")

    def test_notes(self):
        yard = Yard()
        yard.lay("bell", 0)
        yard.lay("bell", 9999)
        yard.link((0, 1), (1, 0))
        yard.link((0, 0), (1, 1))
        yard.put((0, 0))
        run(yard, 5)
        self.assertEqual(
            write_yard(yard),
            "next 2 0\nbell 0 0\nbell 1 9999\nlink 0 0 1 1\nlink 0 1 1 0\nengine 1 0\nrung 0 9999 0 9999 0",
        )

    def test_lifted_pieces_and_lone_rods(self):
        yard = Yard()
        for kind in ("still", "line", "turning", "line"):
            yard.lay(kind)
        yard.new_rod(2)
        for piece in (0, 1, 3):
            yard.lift(piece)
        self.assertEqual(write_yard(yard), "next 4 3\nrod 0 1\nrod 1 1\nrod 2 2\nturning 2 1")
        yard.lift(2)
        self.assertEqual(write_yard(yard), "next 4 3\nrod 0 1\nrod 1 1\nrod 2 2")

    def test_by_rising_numbers(self):
        # Ten and more, so that the order of the numbers is not that of their words.
        yard = Yard()
        for count in range(12):
            yard.lay("lazy")
        for count in range(11, 0, -1):
            yard.link((count, 2), (count - 1, 1))
        yard.link((10, 0), (9, 0))
        yard.link((0, 2), (11, 0))
        lines = write_yard(yard).split("\n")
        self.assertEqual(lines[0], "next 12 12")
        self.assertEqual(lines[1:13], [f"rod {at} 1" for at in range(12)])
        self.assertEqual(lines[13:25], [f"lazy {at} {at}" for at in range(12)])
        self.assertEqual(lines[25:], [
            "link 0 1 1 2", "link 0 2 11 0", "link 1 1 2 2", "link 2 1 3 2", "link 3 1 4 2", "link 4 1 5 2",
            "link 5 1 6 2", "link 6 1 7 2", "link 7 1 8 2", "link 8 1 9 2", "link 9 0 10 0", "link 9 1 10 2",
            "link 10 1 11 2",
        ])

    def test_two_ends_of_one_piece(self):
        yard = Yard()
        yard.lay("turning")
        yard.link((0, 2), (0, 1))
        self.assertEqual(write_yard(yard), "next 1 1\nrod 0 1\nturning 0 0\nlink 0 1 0 2")
        yard.unlink((0, 1))
        yard.link((0, 2), (0, 0))
        self.assertEqual(write_yard(yard), "next 1 1\nrod 0 1\nturning 0 0\nlink 0 0 0 2")

    def test_it_leaves_the_yard_and_its_trail(self):
        for seed in range(30):
            yard = random_yard(seed)
            run(yard, 5)
            before = told(yard)
            text = write_yard(yard)
            self.assertEqual(told(yard), before)
            self.assertEqual(write_yard(yard), text)
            self.assertEqual(back(yard, 9), before["steps"])

    def test_it_has_the_form(self):
        for seed in range(100):
            yard = random_yard(seed)
            run(yard, 5)
            self.assertTrue(is_text(write_yard(yard)))


class Read(unittest.TestCase):
    def test_the_yard_whose_text_it_is(self):
        yard = read_yard(TEXT)
        self.assertIsInstance(yard, Yard)
        self.assertEqual(told(yard), told_without_trail(stepped_yard()))
        self.assertEqual(numbers_to_come(yard), (7, 2))

    def test_an_empty_yard(self):
        yard = read_yard("next 0 0")
        self.assertEqual(told(yard), told(Yard()))
        self.assertEqual(numbers_to_come(yard), (0, 0))

    def test_without_engine_and_notes(self):
        self.assertEqual(told(read_yard("next 2 0\nline 0\nstop 1\nlink 0 1 1 0")), told(without_engine()))

    def test_what_was_written(self):
        for seed in range(200):
            yard = random_yard(seed)
            for piece in yard.pieces()[::3]:
                if seed % 2 and piece != yard.engine()[0]:
                    for end in range({"stop": 1, "line": 2, "bell": 2}.get(yard.kind(piece), 3)):
                        if yard.mate((piece, end)) is not None:
                            yard.unlink((piece, end))
                    yard.lift(piece)
            run(yard, seed % 9)
            if seed % 5 == 0:
                yard.off()
            text = write_yard(yard)
            other = read_yard(text)
            self.assertEqual(told(other), told_without_trail(yard))
            self.assertEqual(write_yard(other), text)
            self.assertEqual(numbers_to_come(other), numbers_to_come(yard))

    def test_its_trail_is_empty(self):
        yard = stepped_yard()
        other = read_yard(write_yard(yard))
        self.assertEqual((yard.steps(), other.steps(), back(other, 5)), (2, 0, 0))
        self.assertEqual(other.bells(), [7])

    def test_notes_rung_that_no_bell_has(self):
        yard = read_yard("next 0 0\nrung 0 9999 5 5")
        self.assertEqual((yard.bells(), yard.engine()), ([0, 9999, 5, 5], None))
        yard = read_yard("next 1 0\nbell 0 9999\nlink 0 0 0 1\nengine 0 1\nrung 0")
        run(yard, 2)
        self.assertEqual(yard.bells(), [0, 9999, 9999])
        back(yard, 2)
        self.assertEqual(yard.bells(), [0])

    def test_sixty_figures(self):
        text = f"next {FAR} 1\nrod 0 2\nline 0\nlazy {FAR - 2} 0\nstop {FAR - 1}\nlink 0 1 {FAR - 2} 1\n" \
            f"link {FAR - 2} 0 {FAR - 1} 0\nengine 0 0"
        yard = read_yard(text)
        self.assertEqual(yard.pieces(), [0, FAR - 2, FAR - 1])
        self.assertEqual(run(yard, 9), 2)
        self.assertEqual((yard.engine(), yard.side(0)), ((FAR - 1, 0), 1))
        back(yard, 9)
        self.assertEqual(write_yard(yard), text)
        self.assertEqual(numbers_to_come(yard), (FAR, 1))
        self.assertEqual(write_yard(read_yard(f"next {FAR} 0")), f"next {FAR} 0")
        # Somewhat beyond.
        self.assertEqual(numbers_to_come(read_yard(f"next {FAR * FAR} 0")), (FAR * FAR, 0))

    def test_numbers_to_come(self):
        self.assertEqual(numbers_to_come(read_yard("next 5 2\nrod 0 1\nrod 1 2\nline 3")), (5, 2))
        self.assertEqual(numbers_to_come(read_yard("next 5 0\nline 4")), (5, 0))
        self.assertEqual(numbers_to_come(read_yard("next 5 0")), (5, 0))

    def test_each_reading_is_a_yard_of_its_own(self):
        expected = told(read_yard(TEXT))
        for name, args in DEEDS:
            one, other = read_yard(TEXT), read_yard(TEXT)
            do(one, name, args)
            run(one, 2)
            self.assertEqual(told(other), expected)

    def test_a_deed_does_the_same_to_it(self):
        for name, args in DEEDS:
            yard, other = stepped_yard(), read_yard(TEXT)
            self.assertEqual(do(other, name, args), do(yard, name, args))
            self.assertEqual(told(other), told(yard))
            self.assertEqual(write_yard(other), write_yard(yard))
        for error, name, args in REFUSED:
            self.assertRaises(error, do, read_yard(TEXT), name, args)

    def test_greater_yards(self):
        yard = Yard()
        for number in range(3000):
            yard.lay(("lazy", "turning", "still")[number % 3])
        for number in range(3000):
            yard.link((number, 0), ((number + 1) % 3000, 2))
        yard.put((0, 2))
        run(yard, 5000)
        self.assertEqual(told(read_yard(write_yard(yard))), told_without_trail(yard))
        for program in (sample(), random_program(7, 40, 100)):
            laid = lay_out(program)
            run(laid.yard, 300)
            self.assertEqual(told(read_yard(write_yard(laid.yard))), told_without_trail(laid.yard))


class Refused(unittest.TestCase):
    def refuse(self, *texts):
        for text in texts:
            with self.subTest(text):
                self.assertFalse(is_text(text))
                self.assertRaises(NoText, read_yard, text)

    def test_empty_texts(self):
        self.refuse("", " ", "\n", "\n\n", "next", "0 0")

    def test_line_ends(self):
        for text in (TEXT, "next 0 0"):
            self.refuse(text + "\n", "\n" + text, text + "\n\n", text + "\r\n", text + "\n ", text + " ", " " + text)
        self.refuse(TEXT.replace("\n", "\n\n", 1), TEXT.replace("\n", "\r\n"), TEXT.replace("\n", " "))

    def test_words(self):
        for line in TEXT.split("\n"):
            word = line.split(" ")[0]
            for wrong in (word.upper(), word.title(), word[:-1], word + "s", "x", ""):
                self.refuse(TEXT.replace(line, wrong + line[len(word):], 1))
        self.refuse("next 1 0\nrail 0", "next 1 0\npiece 0", "next 1 1\nrod 0 1\npoint 0 0")

    def test_blanks(self):
        for at, sign in enumerate(TEXT):
            if sign == " ":
                self.refuse(TEXT[:at] + "  " + TEXT[at + 1:], TEXT[:at] + "\t" + TEXT[at + 1:])

    def test_figures(self):
        for at, sign in enumerate(TEXT):
            if sign in "0123456789":
                for wrong in ("-" + sign, "+" + sign, "0" + sign, "x", "", sign + "_0", sign + ".0"):
                    self.refuse(TEXT[:at] + wrong + TEXT[at + 1:])
                self.refuse(TEXT[:at] + "\u0661" + TEXT[at + 1:], TEXT[:at] + "\u00b2" + TEXT[at + 1:])

    def test_more_or_fewer_numbers(self):
        for line in TEXT.split("\n")[:-1]:
            self.refuse(TEXT.replace(line, line + " 0", 1), TEXT.replace(line, line.rpartition(" ")[0], 1))
            self.refuse(TEXT.replace(line, line.split(" ")[0], 1))
        self.refuse("next 1 0\nbell 0", "next 1 0\nline 0 0", "next 1 0\nstop 0 0", "next 1 1\nrod 0 1\nlazy 0")

    def test_rung_without_a_note(self):
        self.refuse("next 0 0\nrung", "next 0 0\nrung ", TEXT[:-2])

    def test_lines_out_of_order_twice_or_missing(self):
        lines = TEXT.split("\n")
        for at in range(len(lines)):
            self.refuse("\n".join(lines[:at] + [lines[at]] + lines[at:]))
            for other in range(at):
                swapped = list(lines)
                swapped[at], swapped[other] = lines[other], lines[at]
                self.refuse("\n".join(swapped))
        # Each of the others may be missing, but not these: the next numbers, rods, and pieces that links name.
        for at in (0, 1, 2, 3, 4, 5):
            self.refuse("\n".join(lines[:at] + lines[at + 1:]))

    def test_lines_twice_with_other_numbers(self):
        self.refuse(
            "next 1 0\nnext 2 0", "next 2 1\nnext 2 1\nrod 0 1", "next 1 1\nrod 0 1\nrod 0 2",
            "next 1 0\nline 0\nstop 0",
            "next 1 0\nline 0\nengine 0 0\nengine 0 1", "next 0 0\nrung 1\nrung 2", "next 1 0\nbell 0 1\nbell 0 2",
            "next 2 0\nline 0\nline 1\nengine 0 0\nengine 1 0", "next 0 0\nnext 0 0", "next 0 0\nrung 1\nrung 1",
        )

    def test_no_next_numbers(self):
        self.refuse("rod 0 1", "line 0", "stop 0", "bell 0 0", "bell 5 0", "lazy 3 0", "link 0 0 0 1", "engine 0 0")
        self.refuse("rung 1", "rung 0 0", "engine 5 0\nrung 1", "bell 5 0\nengine 5 0", "rod 1 1\nrod 0 1")

    def test_groups_out_of_order(self):
        self.refuse(
            "next 1 1\nline 0\nrod 0 1", "next 1 0\nlink 0 0 0 1\nline 0", "next 1 0\nengine 0 0\nline 0",
            "next 1 0\nline 0\nengine 0 0\nlink 0 0 0 1", "next 1 0\nline 0\nrung 1\nengine 0 0",
            "next 1 0\nrung 1\nline 0", "rod 0 1\nnext 0 1", "line 0\nnext 1 0", "rung 1\nnext 0 0",
        )

    def test_a_next_number_that_is_too_small(self):
        self.refuse("next 0 0\nline 0", "next 4 0\nline 4", "next 4 0\nline 0\nline 5")
        self.refuse(f"next {FAR - 1} 0\nstop {FAR - 1}")
        self.refuse("next 0 0\nrod 0 1", "next 0 1\nrod 0 1\nrod 1 1", "next 9 2\nrod 0 1\nrod 1 1\nrod 2 1")

    def test_rods_that_are_not_all_from_nought_on(self):
        self.refuse(
            "next 0 1", "next 0 2\nrod 0 1", "next 0 1\nrod 1 1", "next 0 2\nrod 1 1", "next 0 3\nrod 0 1\nrod 2 1",
            "next 0 2\nrod 0 1\nrod 2 1", "next 0 2\nrod 1 1\nrod 2 1", "next 0 2\nrod 1 1\nrod 0 1", f"next 0 {FAR}",
        )

    def test_sides_notes_and_rods_of_points(self):
        self.refuse("next 0 1\nrod 0 0", "next 0 1\nrod 0 3", f"next 0 1\nrod 0 {FAR}", "next 0 1\nrod 0 12")
        self.refuse("next 1 0\nbell 0 10000", f"next 1 0\nbell 0 {FAR}")
        for kind in ("still", "lazy", "turning"):
            self.refuse(f"next 1 0\n{kind} 0 0", f"next 1 1\nrod 0 1\n{kind} 0 1", f"next 1 1\nrod 0 1\n{kind} 0 {FAR}")
        self.refuse("next 0 0\nrung 10000", "next 0 0\nrung 1 10000", "next 0 0\nrung 1 10000 2")
        self.refuse(f"next 0 0\nrung {FAR}")

    def test_ends_that_are_not_there(self):
        for kind, size in (("line", 2), ("bell", 2), ("stop", 1), ("still", 3), ("lazy", 3), ("turning", 3)):
            head = "next 3 1\nrod 0 1\n" + kind + (" 0\n" if kind in ("line", "stop") else " 0 0\n") + "still 1 0\n"
            read_yard(head + f"link 0 {size - 1} 1 0\nengine 0 {size - 1}")
            for end in (size, size + 1, FAR):
                self.refuse(head + f"link 0 {end} 1 0", head + f"engine 0 {end}")
        head = "next 3 0\nline 0\nline 2\n"
        for piece in (1, 3, FAR):
            self.refuse(head + f"engine {piece} 0", head + f"link 0 0 {piece} 0")
        self.refuse(head + "link 0 0 2 2", head + "link 1 0 2 0", head + "link 0 2 2 0")

    def test_ends_linked_twice_or_to_themselves(self):
        head = "next 3 0\nline 0\nline 1\nline 2\n"
        self.refuse(
            head + "link 0 0 0 0", head + "link 0 0 1 0\nlink 0 0 2 0", head + "link 0 0 1 0\nlink 1 0 2 0",
            head + "link 0 0 2 0\nlink 1 0 2 0", head + "link 0 0 1 0\nlink 0 1 1 0",
            head + "link 0 0 0 1\nlink 0 1 1 0", head + "link 0 0 1 0\nlink 0 0 1 0",
        )

    def test_a_link_whose_greater_end_stands_first(self):
        head = "next 3 0\nline 0\nline 1\nline 2\n"
        self.refuse(head + "link 1 0 0 1", head + "link 0 1 0 0", head + "link 0 0 1 0\nlink 2 0 1 1")
        self.refuse("next 11 0\nline 9\nline 10\nlink 10 0 9 0")

    def test_links_out_of_order(self):
        head = "next 11 0\nline 0\nline 2\nline 10\n"
        read_yard(head + "link 0 0 10 0\nlink 0 1 2 1\nlink 2 0 10 1")
        self.refuse(
            head + "link 0 1 2 1\nlink 0 0 10 0\nlink 2 0 10 1", head + "link 2 0 10 1\nlink 0 0 10 0\nlink 0 1 2 1",
            head + "link 0 1 10 0\nlink 0 0 2 1",
        )

    def test_pieces_out_of_order(self):
        self.refuse("next 3 0\nline 1\nline 0", "next 11 0\nline 10\nline 9", "next 3 0\nstop 2\nbell 1 5")


class AnyTexts(unittest.TestCase):
    """Texts of yards with something changed are read just where they are texts of other yards."""

    def check(self, text):
        if is_text(text):
            self.assertEqual(write_yard(read_yard(text)), text)
            return True
        self.assertRaises(NoText, read_yard, text)
        return False

    def changed(self, chance, text):
        """The text with one sign, word or line changed."""
        lines = text.split("\n")
        at = chance.randrange(len(lines))
        words = lines[at].split(" ")
        which = chance.randrange(len(words))
        way = chance.randrange(8)
        if way == 0:
            del lines[at]
        elif way == 1:
            lines.insert(chance.randrange(len(lines) + 1), lines[at])
        elif way == 2:
            other = chance.randrange(len(lines))
            lines[at], lines[other] = lines[other], lines[at]
        else:
            if way == 3:
                del words[which]
            elif way == 4:
                words.insert(which, chance.choice(words))
            elif way == 5:
                words[0] = chance.choice(("line", "stop", "bell", "still", "lazy", "turning", "rod", "link", "rung"))
            else:
                words[which] = str(chance.choice((0, 1, 2, 3, 4, 5, 9999, 10000)))
            lines[at] = " ".join(words)
        return "\n".join(lines)

    def test_changed_texts(self):
        read = 0
        for seed in range(4000):
            chance = random.Random(seed)
            yard = random_yard(seed % 97, chance.randrange(1, 7)) if seed % 3 else stepped_yard()
            text = write_yard(yard)
            for count in range(chance.randrange(1, 3)):
                text = self.changed(chance, text)
            read += self.check(text)
        self.assertGreater(read, 200)
        self.assertLess(read, 3000)
