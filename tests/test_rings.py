"""lazyrails.rings: point 11 of the document."""

import unittest

from lazyrails.engine import run
from lazyrails.gadgets import merge, tally
from lazyrails.rings import fate
from lazyrails.yard import Yard
from tests.asking import numbers_to_come, stepped_yard, told
from tests.plainly import fate_plainly, random_yard

FAR = 10 ** 39


def straight(kinds):
    """Pieces of the kinds, each one's end 0 linked to the end 1 of the one ahead of it; the engine at the first."""
    yard = Yard()
    for kind in kinds:
        yard.lay(kind)
    for piece in range(1, len(kinds)):
        yard.link((piece - 1, 1), (piece, 0))
    yard.put((0, 0))
    return yard


def circle(many):
    yard = straight(["line"] * many)
    yard.link((many - 1, 1), (0, 0))
    return yard


def tailed(kind, tail, length):
    """Lines that lead to a point's arm 1, and a round of lines from its stem to its arm 2; the engine at the first."""
    yard = Yard()
    point = yard.lay(kind)
    for many, begin, end in ((tail, None, (point, 1)), (length - 1, (point, 0), (point, 2))):
        lines = [yard.lay("line") for count in range(many)]
        for one, other in zip(lines, lines[1:]):
            yard.link((one, 1), (other, 0))
        if begin is not None:
            yard.link(begin, (lines[0], 0))
        yard.link((lines[-1], 1), end)
    yard.put((point + 1, 0))
    return yard


def counting(many):
    """A tally of so many rods whose two ends out lead to its end in, where the engine stands."""
    yard = Yard()
    into, done, around = tally(yard, [yard.new_rod() for count in range(many)])
    merge(yard, [done, around], into)
    yard.put(into)
    return yard


class Fate(unittest.TestCase):
    def assert_fate(self, yard, most, expected):
        before = told(yard)
        self.assertEqual(fate(yard, most), expected)
        self.assertEqual(told(yard), before)


class HeldAtLast(Fate):
    def test_at_once(self):
        off = stepped_yard()
        off.off()
        for yard, why in ((Yard(), "none"), (off, "none"), (straight(["stop"]), "stop"), (straight(["bell"]), "loose")):
            for most in (-FAR, -1, 0, 1, 2, FAR):
                self.assert_fate(yard, most, ("held", why, 0))

    def test_behind_some_steps(self):
        for kinds, why in ((["line", "bell", "line", "stop"], "stop"), (["line", "line", "bell", "line"], "loose")):
            yard = straight(kinds)
            for most in (3, 4, 5, 6, 7, FAR):
                self.assert_fate(yard, most, ("held", why, 3))
            for most in (0, 1, 2):
                self.assert_fate(yard, most, ("open", most))

    def test_each_number_of_steps_and_each_bound(self):
        for steps in range(1, 9):
            yard = straight(["line"] * steps + ["stop"])
            for most in range(12):
                self.assert_fate(yard, most, ("held", "stop", steps) if steps <= most else ("open", most))

    def test_where_a_side_was_turned_ahead_of_it(self):
        yard = Yard()
        yard.lay("turning")
        yard.lay("stop")
        yard.link((0, 1), (0, 0))
        yard.link((0, 2), (1, 0))
        yard.put((0, 0))
        self.assert_fate(yard, 2, ("held", "stop", 2))
        self.assert_fate(yard, 1, ("open", 1))


class Round(Fate):
    def test_from_the_first_stand_on(self):
        for length in range(1, 8):
            yard = circle(length)
            for most in range(20):
                self.assert_fate(yard, most, ("round", 0, length) if length <= most else ("open", most))
            self.assert_fate(yard, FAR, ("round", 0, length))

    def test_from_a_later_stand_on(self):
        for kind in ("still", "lazy"):
            for tail in range(1, 6):
                for length in range(2, 7):
                    # The lazy point lies to the tail's arm for one round more.
                    begin = tail + 1 if kind == "still" else tail + 1 + length
                    yard = tailed(kind, tail, length)
                    for most in range(begin + length + 3):
                        whole = begin + length <= most
                        self.assert_fate(yard, most, ("round", begin, length) if whole else ("open", most))
                    self.assert_fate(yard, FAR, ("round", begin, length))

    def test_later_by_a_side_alone(self):
        yard = Yard()
        yard.lay("line")
        yard.lay("lazy")
        yard.link((0, 1), (1, 1))
        yard.link((1, 0), (0, 0))
        yard.put((0, 0))
        self.assert_fate(yard, FAR, ("round", 0, 2))
        yard.throw(0, 2)
        self.assert_fate(yard, FAR, ("round", 2, 2))
        self.assert_fate(yard, 4, ("round", 2, 2))
        self.assert_fate(yard, 3, ("open", 3))

    def test_the_sides_must_come_again_too(self):
        yard = Yard()
        yard.lay("turning")
        merge(yard, [(0, 1), (0, 2)], (0, 0))
        yard.put((0, 0))
        self.assert_fate(yard, FAR, ("round", 0, 4))
        for many in range(1, 6):
            yard = counting(many)
            self.assertEqual(fate(yard, FAR), fate_plainly(yard, 1000))
            self.assertEqual(fate(yard, FAR)[:2], ("round", 0))

    def test_rods_that_no_point_of_the_way_sits_on_do_not_matter(self):
        yard = circle(3)
        yard.new_rod()
        yard.new_rod(2)
        yard.lay("turning")
        self.assert_fate(yard, FAR, ("round", 0, 3))

    def test_notes_rung_do_not_matter(self):
        yard = Yard()
        yard.lay("bell", 5)
        yard.link((0, 0), (0, 1))
        yard.put((0, 0))
        self.assert_fate(yard, FAR, ("round", 0, 1))
        run(yard, 3)
        self.assert_fate(yard, FAR, ("round", 0, 1))


class Bounds(Fate):
    def test_below_nought_counts_as_nought(self):
        for most in (0, -1, -2, -FAR):
            self.assert_fate(circle(1), most, ("open", 0))
            self.assert_fate(straight(["line", "stop"]), most, ("open", 0))
            self.assert_fate(straight(["stop"]), most, ("held", "stop", 0))

    def test_yards_of_all_sorts(self):
        found = set()
        for seed in range(400):
            yard = random_yard(seed, 4 + seed % 9)
            run(yard, seed % 3)
            for most in (0, 1, 2, 3, 5, 9, 14, 30, 200):
                expected = fate_plainly(yard, most)
                self.assert_fate(yard, most, expected)
                found.add((expected[0], expected[1] if expected[0] != "open" else None))
        words = {word for word, rest in found}
        self.assertEqual(words, {"held", "round", "open"})
        self.assertTrue({("held", "stop"), ("held", "loose"), ("round", 0), ("round", 1), ("round", 2)} <= found)

    def test_every_bound_about_a_long_round(self):
        points = ("still", "lazy", "turning")
        for seed in range(60):
            yard = random_yard(seed, 12, points)
            whole = fate_plainly(yard, 400)
            if whole[0] == "round":
                for most in range(whole[1] + whole[2] - 2, whole[1] + whole[2] + 3):
                    self.assert_fate(yard, most, fate_plainly(yard, most))


class Untouched(Fate):
    def test_the_yard_and_its_trail(self):
        for most in (-1, 0, 1, 7, FAR):
            yard = stepped_yard()
            fate(yard, most)
            self.assertEqual(told(yard), told(stepped_yard()))
            self.assertEqual(yard.steps(), 2)
            self.assertEqual(numbers_to_come(yard), (7, 2))

    def test_it_is_told_by_the_stand_and_not_by_the_trail(self):
        yard = stepped_yard()
        expected = fate(yard, 50)
        yard.put(yard.engine())
        self.assertEqual(fate(yard, 50), expected)

    def test_it_is_a_tuple(self):
        for yard in (Yard(), circle(2), straight(["line", "stop"])):
            self.assertIsInstance(fate(yard, 1), tuple)


class Sizes(Fate):
    def test_a_circle_of_three_thousand_points(self):
        yard = Yard()
        many = 3000
        for number in range(many):
            yard.lay("lazy")
            yard.throw(number, 2)
        for number in range(many):
            yard.link((number, 0), ((number + 1) % many, 1))
        yard.put((0, 1))
        self.assert_fate(yard, 100000, ("round", many, many))

    def test_open_within_a_hundred_thousand_steps(self):
        self.assertEqual(fate(counting(20), 100000), ("open", 100000))

    def test_a_round_that_closes_just_within_a_hundred_thousand_steps(self):
        yard = counting(12)
        word, begin, length = fate(yard, 100000)
        self.assertEqual((word, begin), ("round", 0))
        self.assertGreater(length, 4096)
        self.assertEqual(fate(yard, length), ("round", 0, length))
        self.assertEqual(fate(yard, length - 1), ("open", length - 1))
        run(yard, length)
        self.assertEqual(fate(yard, FAR), ("round", 0, length))

    def test_held_behind_almost_three_thousand_steps(self):
        yard = straight(["line"] * 2999 + ["stop"])
        self.assertEqual(fate(yard, 2999), ("held", "stop", 2999))
        self.assertEqual(fate(yard, 2998), ("open", 2998))
