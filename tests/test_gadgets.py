"""lazyrails.gadgets: points 12 and 13 of the document: merge, doorway, fan."""

import random
import unittest

from lazyrails.engine import held, run
from lazyrails.errors import NoMany
from lazyrails.gadgets import doorway, fan, merge
from lazyrails.points import is_point
from lazyrails.yard import Yard
from tests.asking import numbers_to_come, told
from tests.building import FAR, close, out_of, sides, was_there, worn_yard


def lines(yard, many):
    return [yard.lay("line") for count in range(many)]


class Merge(unittest.TestCase):
    def merged(self, many):
        """A yard where the ends 1 of so many lines are merged into a stop, which is told too."""
        yard = worn_yard()
        found = lines(yard, many)
        stop = (yard.lay("stop"), 0)
        outs = [(line, 1) for line in found]
        self.assertIsNone(merge(yard, outs, stop))
        self.assertEqual(outs, [(line, 1) for line in found])
        return yard, found, stop

    def test_each_end_leads_to_the_told_one(self):
        for many in list(range(1, 14)) + [200]:
            yard, found, stop = self.merged(many)
            before = sides(yard)
            for line in found + found[::-1] + found:
                yard.put((line, 0))
                run(yard, FAR)
                self.assertEqual((yard.engine(), held(yard)), (stop, "stop"))
                self.assertEqual(sides(yard), before)

    def test_one_point_fewer_than_ends(self):
        for many in list(range(1, 14)) + [200]:
            yard, found, stop = self.merged(many)
            laid = [piece for piece in yard.pieces() if piece > stop[0]]
            self.assertEqual(len(laid), many - 1)
            self.assertTrue(all(is_point(yard.kind(piece)) for piece in laid))

    def test_one_end_is_linked_straight(self):
        yard, found, stop = self.merged(1)
        self.assertEqual(yard.mate((found[0], 1)), stop)
        self.assertEqual(numbers_to_come(yard), (stop[0] + 1, 4))

    def test_no_ends(self):
        yard = worn_yard()
        self.assertEqual(yard.steps(), 1)
        outs = []
        self.assertIsNone(merge(yard, outs, (1, 0)))
        self.assertEqual(outs, [])
        self.assertEqual(told(yard), told(worn_yard()))
        self.assertEqual(numbers_to_come(yard), numbers_to_come(worn_yard()))

    def test_what_was_there_stays(self):
        for many in (1, 2, 5):
            yard = worn_yard()
            before = was_there(yard, [0, 1, 2], yard.rods())
            rods = yard.rods()
            found = lines(yard, many)
            merge(yard, [(line, 1) for line in found], (yard.lay("stop"), 0))
            self.assertEqual(was_there(yard, [0, 1, 2], rods), before)
            self.assertTrue(all(yard.mate((line, 0)) is None for line in found))
            self.assertEqual((yard.steps(), yard.bells()), (0, [5]))

    def test_two_ends_of_one_piece(self):
        yard = Yard()
        line, stop = yard.lay("line"), yard.lay("stop")
        merge(yard, [(line, 0), (line, 1)], (stop, 0))
        for end in (0, 1):
            yard.put((line, end))
            run(yard, FAR)
            self.assertEqual(yard.engine(), (stop, 0))

    def test_two_ends_of_one_piece_into_its_third(self):
        yard = Yard()
        point = yard.lay("still")
        merge(yard, [(point, 1), (point, 2)], (point, 0))
        for side in (1, 2):
            yard.throw(0, side)
            yard.put((point, 0))
            self.assertEqual(run(yard, 2), 2)
            self.assertEqual(yard.engine(), (point, 0))

    def test_an_end_into_the_other_of_its_piece(self):
        yard = Yard()
        line = yard.lay("line")
        merge(yard, [(line, 1)], (line, 0))
        self.assertEqual(yard.mate((line, 0)), (line, 1))
        self.assertEqual(yard.pieces(), [line])

    def test_on_from_the_told_end(self):
        yard = Yard()
        first, second, bell, stop = yard.lay("line"), yard.lay("line"), yard.lay("bell", 3), yard.lay("stop")
        yard.link((bell, 0), (stop, 0))
        merge(yard, [(first, 1), (second, 0)], (bell, 1))
        for begin in ((first, 0), (second, 1)):
            yard.put(begin)
            run(yard, FAR)
            self.assertEqual(yard.engine(), (stop, 0))
        self.assertEqual(yard.bells(), [3, 3])

    def test_the_list_handed_in_is_not_kept(self):
        yard = Yard()
        first, second, stop = yard.lay("line"), yard.lay("line"), yard.lay("stop")
        outs = [(first, 1), (second, 1)]
        merge(yard, outs, (stop, 0))
        before = told(yard)
        outs.clear()
        self.assertEqual(told(yard), before)

    def test_a_merge_of_merges(self):
        yard = Yard()
        found = lines(yard, 6)
        middles = lines(yard, 2)
        stop = yard.lay("stop")
        merge(yard, [(line, 1) for line in found[:3]], (middles[0], 0))
        merge(yard, [(line, 1) for line in found[3:]], (middles[1], 0))
        merge(yard, [(line, 1) for line in middles], (stop, 0))
        for line in found:
            yard.put((line, 0))
            run(yard, FAR)
            self.assertEqual(yard.engine(), (stop, 0))

    def test_in_a_yard_of_three_thousand_pieces(self):
        yard = Yard()
        found = lines(yard, 1500)
        stop = yard.lay("stop")
        merge(yard, [(line, 1) for line in found], (stop, 0))
        self.assertEqual(len(yard.pieces()), 3000)
        for line in found[::100] + found[-1:]:
            yard.put((line, 0))
            run(yard, 100000)
            self.assertEqual(yard.engine(), (stop, 0))


class Doorway(unittest.TestCase):
    def test_three_ends_of_at_most_three_new_pieces_none_linked(self):
        yard = worn_yard()
        pieces, rods = yard.pieces(), yard.rods()
        before = was_there(yard, pieces, rods)
        ends = doorway(yard)
        self.assertIsInstance(ends, tuple)
        self.assertEqual(len(set(ends)), 3)
        self.assertEqual([yard.mate(end) for end in ends], [None, None, None])
        self.assertFalse({piece for piece, end in ends} & set(pieces))
        self.assertLessEqual(len(yard.pieces()) - len(pieces), 3)
        self.assertEqual(was_there(yard, pieces, rods), before)
        self.assertEqual(yard.steps(), 0)

    def test_inward_and_outward(self):
        yard = Yard()
        both, inward, outward = doorway(yard)
        stops = close(yard, (both, inward, outward))
        before = sides(yard)
        chance = random.Random(1)
        for count in range(60):
            if chance.random() < 0.5:
                self.assertEqual(out_of(yard, stops, inward), both)
            else:
                self.assertEqual(out_of(yard, stops, both), outward)
            self.assertEqual(sides(yard), before)

    def test_both_ways_ahead_of_any_other(self):
        for first in (0, 1):
            yard = Yard()
            both, inward, outward = doorway(yard)
            stops = close(yard, (both, inward, outward))
            for way in (first, 1 - first, first):
                into, out = ((inward, both), (both, outward))[way]
                self.assertEqual(out_of(yard, stops, into), out)

    def test_many_doorways_are_apart(self):
        yard = Yard()
        doors = [doorway(yard) for count in range(5)]
        self.assertEqual(len({end for ends in doors for end in ends}), 15)
        stops = close(yard, [end for ends in doors for end in ends])
        for both, inward, outward in doors + doors:
            self.assertEqual(out_of(yard, stops, inward), both)
            self.assertEqual(out_of(yard, stops, both), outward)

    def test_in_and_out_again(self):
        yard = Yard()
        both, inward, outward = doorway(yard)
        bell, stop = yard.lay("bell", 6), yard.lay("stop")
        turn = yard.lay("still")
        yard.link(both, (bell, 0))
        yard.link((bell, 1), (turn, 0))
        yard.link((turn, 1), (turn, 2))
        yard.link(outward, (stop, 0))
        yard.put(inward)
        run(yard, FAR)
        self.assertEqual((yard.engine(), yard.bells()), ((stop, 0), [6, 6]))


class Fan(unittest.TestCase):
    def test_ends_and_pieces(self):
        for many in list(range(1, 20)) + [200, 230]:
            yard = worn_yard()
            pieces, rods = yard.pieces(), yard.rods()
            before = was_there(yard, pieces, rods)
            told_ends = fan(yard, many)
            self.assertIsInstance(told_ends, tuple)
            root, leaves = told_ends
            self.assertIsInstance(leaves, list)
            self.assertEqual(len(leaves), many)
            self.assertEqual(len(set(leaves + [root])), many + 1)
            self.assertEqual([yard.mate(end) for end in leaves + [root]], [None] * (many + 1))
            self.assertFalse({piece for piece, end in leaves + [root]} & set(pieces))
            self.assertLessEqual(len(yard.pieces()) - len(pieces), 2 * many)
            self.assertEqual(was_there(yard, pieces, rods), before)
            self.assertEqual(yard.steps(), 0)

    def test_the_root_leads_to_the_leaf_gone_in_at_last(self):
        for many in (1, 2, 3, 4, 5, 7, 8, 13):
            yard = worn_yard()
            rods = yard.rods()
            before = was_there(yard, [0, 1, 2], rods)["sides"]
            root, leaves = fan(yard, many)
            stops = close(yard, leaves + [root])
            chance = random.Random(many)
            for leaf in leaves + leaves[::-1] + [chance.choice(leaves) for count in range(40)]:
                self.assertEqual(out_of(yard, stops, leaf), root)
                for often in range(3):
                    self.assertEqual(out_of(yard, stops, root), leaf)
            self.assertEqual([yard.side(rod) for rod in rods], before)

    def test_several_leaves_between_two_goings_in_at_the_root(self):
        yard = Yard()
        root, leaves = fan(yard, 9)
        stops = close(yard, leaves + [root])
        chance = random.Random(9)
        for count in range(60):
            for often in range(chance.randrange(1, 4)):
                leaf = chance.choice(leaves)
                self.assertEqual(out_of(yard, stops, leaf), root)
            self.assertEqual(out_of(yard, stops, root), leaf)

    def test_two_hundred_leaves(self):
        yard = Yard()
        root, leaves = fan(yard, 200)
        stops = close(yard, leaves + [root])
        for leaf in leaves:
            self.assertEqual(out_of(yard, stops, leaf), root)
            self.assertEqual(out_of(yard, stops, root), leaf)

    def test_two_fans_share_nothing(self):
        yard = Yard()
        one, ones = fan(yard, 3)
        other, others = fan(yard, 3)
        stops = close(yard, ones + others + [one, other])
        for first, second in ((0, 2), (1, 0), (2, 1)):
            self.assertEqual(out_of(yard, stops, ones[first]), one)
            self.assertEqual(out_of(yard, stops, others[second]), other)
            self.assertEqual(out_of(yard, stops, one), ones[first])
            self.assertEqual(out_of(yard, stops, other), others[second])

    def test_the_leaves_are_a_list_of_ones_own(self):
        yard = Yard()
        leaves = fan(yard, 3)[1]
        before = told(yard)
        leaves.clear()
        self.assertEqual(told(yard), before)
        self.assertEqual(len(fan(yard, 3)[1]), 3)

    def test_no_leaves(self):
        for many in (0, -1, -FAR):
            yard = worn_yard()
            self.assertRaises(NoMany, fan, yard, many)
            self.assertEqual(told(yard), told(worn_yard()))
            self.assertEqual(yard.steps(), 1)
            self.assertEqual(numbers_to_come(yard), numbers_to_come(worn_yard()))
