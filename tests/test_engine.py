"""lazyrails.engine: points 4, 7 and 8 of the document, and `held` and `run` in its interface."""

import unittest

from lazyrails.engine import held, run
from lazyrails.points import ends_of, is_point
from lazyrails.yard import Yard
from tests.asking import numbers_to_come, stepped_yard, told
from tests.plainly import KINDS, PASSAGES, random_yard, stand_of, stands_plainly, step_plainly

FAR = 10 ** 39


def standing(kind, end, side=1, note=0):
    """A yard with one piece of the kind, its rod (if any) on the side, the engine at that end of it."""
    yard = Yard()
    piece = yard.lay(kind, note)
    if is_point(kind):
        yard.throw(yard.rod(piece), side)
    yard.put((piece, end))
    return yard


def with_lines(yard, piece):
    """A line at each end of the piece; tells them by the end."""
    lines = {}
    for end in range(ends_of(yard.kind(piece))):
        lines[end] = yard.lay("line")
        yard.link((piece, end), (lines[end], 0))
    return lines


def ring_of_bells(notes):
    yard = Yard()
    for note in notes:
        yard.lay("bell", note)
    for piece in range(len(notes)):
        yard.link((piece, 1), ((piece + 1) % len(notes), 0))
    yard.put((0, 0))
    return yard


class Held(unittest.TestCase):
    def test_off(self):
        yard = Yard()
        self.assertEqual(held(yard), "none")
        yard.put((yard.lay("line"), 0))
        yard.off()
        self.assertEqual(held(yard), "none")

    def test_at_a_stop(self):
        yard = standing("stop", 0)
        self.assertEqual(held(yard), "stop")
        yard.link((0, 0), (yard.lay("line"), 0))
        self.assertEqual(held(yard), "stop")

    def test_loose_at_every_piece_that_is_not_linked(self):
        for kind, end, side in PASSAGES:
            with self.subTest(kind=kind, end=end, side=side):
                self.assertEqual(held(standing(kind, end, side or 1)), "loose")

    def test_only_the_end_by_which_it_would_go_out_counts(self):
        for (kind, end, side), (out, behind) in PASSAGES.items():
            for linked in range(ends_of(kind)):
                with self.subTest(kind=kind, end=end, side=side, linked=linked):
                    yard = standing(kind, end, side or 1)
                    yard.link((0, linked), (yard.lay("line"), 0))
                    self.assertEqual(held(yard), None if linked == out else "loose")

    def test_what_stands_behind_the_next_step_does_not_count(self):
        for kind in ("stop", "line"):
            yard = standing("line", 0)
            yard.link((0, 1), (yard.lay(kind), 0))
            self.assertIsNone(held(yard))

    def test_asking_changes_nothing(self):
        yard = stepped_yard()
        self.assertIsNone(held(yard))
        self.assertEqual(told(yard), told(stepped_yard()))


class OneStep(unittest.TestCase):
    def test_each_passage(self):
        for (kind, end, side), (out, behind) in PASSAGES.items():
            with self.subTest(kind=kind, end=end, side=side):
                yard = standing(kind, end, side or 1, 77)
                lines = with_lines(yard, 0)
                kinds, mates = told(yard)["kinds"], told(yard)["mates"]
                self.assertEqual(run(yard, 1), 1)
                self.assertEqual(yard.engine(), (lines[out], 0))
                self.assertEqual([yard.side(rod) for rod in yard.rods()], [behind] if side else [])
                self.assertEqual(yard.bells(), [77] if kind == "bell" else [])
                self.assertEqual(yard.steps(), 1)
                self.assertEqual((told(yard)["kinds"], told(yard)["mates"]), (kinds, mates))

    def test_a_bell_rings_whichever_way_the_engine_goes(self):
        yard = Yard()
        first, bell, last = yard.lay("line"), yard.lay("bell", 9999), yard.lay("line")
        yard.link((first, 1), (bell, 0))
        yard.link((bell, 1), (last, 0))
        for begin in ((first, 0), (last, 1)):
            yard.put(begin)
            self.assertEqual(run(yard, FAR), 2)
        self.assertEqual(yard.bells(), [9999, 9999])

    def test_all_points_on_a_rod_turn_together_and_no_other(self):
        yard = Yard()
        rod = yard.new_rod()
        other = yard.new_rod(2)
        turning, still, lazy = (yard.lay(kind, rod=rod) for kind in ("turning", "still", "lazy"))
        apart = yard.lay("still", rod=other)
        yard.link((turning, 1), (still, 0))
        yard.link((still, 2), (lazy, 1))
        yard.link((lazy, 0), (apart, 0))
        yard.link((apart, 2), (yard.lay("stop"), 0))
        yard.put((turning, 0))
        self.assertEqual(run(yard, 1), 1)
        self.assertEqual((yard.side(rod), yard.side(other)), (2, 2))
        # The still point lies to 2 by the turning one's passing, and the lazy one then brings all three back.
        self.assertEqual(run(yard, 1), 1)
        self.assertEqual(yard.engine(), (lazy, 1))
        self.assertEqual((yard.side(rod), yard.side(other)), (2, 2))
        self.assertEqual(run(yard, 1), 1)
        self.assertEqual((yard.side(rod), yard.side(other)), (1, 2))
        self.assertEqual(run(yard, FAR), 1)
        self.assertEqual(held(yard), "stop")

    def test_two_ends_of_one_piece_linked(self):
        yard = standing("bell", 0, note=4)
        yard.link((0, 1), (0, 0))
        self.assertEqual(run(yard, 3), 3)
        self.assertEqual((yard.engine(), yard.bells()), ((0, 0), [4, 4, 4]))
        yard = standing("bell", 1, note=4)
        yard.link((0, 1), (0, 0))
        self.assertEqual(run(yard, 2), 2)
        self.assertEqual((yard.engine(), yard.bells()), ((0, 1), [4, 4]))

    def test_two_arms_of_one_point_linked(self):
        sides = {"still": [1, 1, 1, 1], "lazy": [1, 2, 2, 1], "turning": [2, 2, 1, 1]}
        for kind in sides:
            yard = standing(kind, 0)
            yard.link((0, 1), (0, 2))
            line = yard.lay("line")
            yard.link((0, 0), (line, 0))
            yard.link((line, 1), (yard.lay("line"), 1))
            found = []
            for begin in range(2):
                yard.put((0, 0))
                for step in range(2):
                    self.assertEqual(run(yard, 1), 1)
                    found.append(yard.side(0))
                self.assertEqual(yard.engine(), (line, 0))
            self.assertEqual(found, sides[kind], kind)


class Run(unittest.TestCase):
    def test_so_many_steps(self):
        for most in (0, 1, 2, 3, 7):
            yard = ring_of_bells([3, 1, 2])
            self.assertEqual(run(yard, most), most)
            self.assertEqual(yard.bells(), ([3, 1, 2] * 3)[:most])
            self.assertEqual(yard.engine(), (most % 3, 0))
            self.assertEqual(yard.steps(), most)

    def test_none_for_a_number_below_one(self):
        for most in (0, -1, -2, -FAR):
            yard = stepped_yard()
            self.assertEqual(run(yard, most), 0)
            self.assertEqual(told(yard), told(stepped_yard()))

    def test_until_it_is_held(self):
        for kind, why, steps in (("stop", "stop", 2), ("line", "loose", 2), ("bell", "loose", 2)):
            for most in (2, 3, FAR):
                yard = standing("line", 0)
                bell, last = yard.lay("bell", 5), yard.lay(kind, 6)
                yard.link((0, 1), (bell, 1))
                yard.link((bell, 0), (last, 0))
                self.assertEqual(run(yard, most), steps)
                self.assertEqual((held(yard), yard.engine(), yard.bells()), (why, (last, 0), [5]))

    def test_two_runs_are_one(self):
        yard, other = ring_of_bells([1, 2]), ring_of_bells([1, 2])
        self.assertEqual((run(yard, 2), run(yard, 3)), (2, 3))
        self.assertEqual(run(other, 5), 5)
        self.assertEqual(told(yard), told(other))

    def test_where_it_is_held_nothing_changes_however_often(self):
        for kind, end, side in list(PASSAGES) + [("stop", 0, 0)]:
            with self.subTest(kind=kind, end=end, side=side):
                yard = standing("bell", 0, note=8)
                piece = yard.lay(kind, 9)
                yard.link((0, 1), (piece, end))
                if side:
                    yard.throw(yard.rod(piece), side)
                self.assertEqual(run(yard, 1), 1)
                before = told(yard)
                for most in (1, 2, FAR, 1):
                    self.assertEqual(run(yard, most), 0)
                self.assertEqual(told(yard), before)
                self.assertEqual((yard.steps(), yard.bells()), (1, [8]))

    def test_an_engine_that_is_off_does_nothing(self):
        yard = stepped_yard()
        yard.off()
        before = told(yard)
        self.assertEqual(run(yard, FAR), 0)
        self.assertEqual(told(yard), before)
        yard = Yard()
        self.assertEqual(run(yard, 5), 0)
        self.assertEqual(numbers_to_come(yard), (0, 0))

    def test_putting_by_hand_frees_it(self):
        yard = standing("stop", 0)
        line = yard.lay("line")
        yard.link((line, 1), (0, 0))
        self.assertEqual(run(yard, 5), 0)
        yard.put((line, 0))
        self.assertEqual(run(yard, 5), 1)
        self.assertEqual(yard.engine(), (0, 0))

    def test_numbers_to_come_stay(self):
        yard = stepped_yard()
        run(yard, 100)
        self.assertEqual(numbers_to_come(yard), (7, 2))

    def test_yards_of_all_sorts(self):
        for seed in range(300):
            yard = random_yard(seed)
            stands, why = stands_plainly(yard, 40)
            for stand in stands[1:]:
                self.assertIsNone(held(yard))
                self.assertEqual(run(yard, 1), 1)
                self.assertEqual(stand_of(yard), stand)
            following = step_plainly(yard, stands[-1])
            self.assertEqual(held(yard), following if isinstance(following, str) else None)
            self.assertEqual(yard.steps(), len(stands) - 1)

    def test_every_kind_comes_in_yards_of_all_sorts(self):
        passed, held_by = set(), set()
        for seed in range(300):
            yard = random_yard(seed)
            stands, why = stands_plainly(yard, 40)
            passed.update((yard.kind(end[0]), end[1]) for end, sides, rung in stands)
            held_by.add(why)
        self.assertEqual(passed, {(kind, end) for kind in KINDS for end in range(ends_of(kind))})
        self.assertEqual(held_by, {"stop", "loose", None})


class Sizes(unittest.TestCase):
    def test_three_thousand_pieces_and_a_hundred_thousand_steps(self):
        yard = Yard()
        many = 3000
        for number in range(many):
            yard.lay("turning")
        for number in range(many):
            behind = (number + 1) % many
            yard.link((number, 0), (behind, 1))
        yard.put((0, 1))
        self.assertEqual(run(yard, 100000), 100000)
        self.assertEqual(yard.engine(), (100000 % many, 1))
        self.assertEqual(yard.steps(), 100000)

    def test_a_hundred_thousand_notes(self):
        yard = ring_of_bells([1, 2])
        self.assertEqual(run(yard, 100000), 100000)
        self.assertEqual(yard.bells(), [1, 2] * 50000)
