import copy
import itertools
import random
import unittest

from sumshare.errors import NoPlace
from sumshare.ladders import empty_ladder, grown_ladder
from sumshare.places import at_most_in, place_in, sum_in
from tests.ladder_samples import drawn_ladder, drawn_number_tree, ladder_by, plain_numbers
from tests.place_samples import (
    at_most_by, check_bounds, dealt, first_ends, last_ends, numbers_to_ask, place_by, places_to_ask, sum_by,
)
from tests.samples import THIRTY, check_refused

# Its pairs fold, and most of it stands above the bar.
MIXED = ladder_by(2, 3, {(0, 0): 1, (0, 6): 2, (1, 1): 3, (2, 1): 4, (3, 0): 5})


class ByHandTest(unittest.TestCase):
    def test_at_most(self):
        told = [at_most_in(MIXED, x) for x in range(-1, 9)]
        self.assertEqual(told, [
            (0, 0), (1, 6), (1, 6), (1, 9), (4, 9), (4, 13), (4, 13), (6, 15), (15, 15), (15, 15),
        ])

    def test_at_most_whatever_is_asked(self):
        self.assertEqual([at_most_in(MIXED, x) for x in (-THIRTY, -8, 1024, THIRTY)], [
            (0, 0), (0, 0), (15, 15), (15, 15),
        ])

    def test_sum(self):
        self.assertEqual(sum_in(MIXED), (2 * 6 + 3 * 2 + 4 * 4, 2 * 6 + 3 * 3 + 4 * 7 + 5 * 7))

    def test_places(self):
        told = [place_in(MIXED, number) for number in range(1, 16)]
        lows = [0] * 6 + [2] * 3 + [4] * 4 + [6] * 2
        highs = [0] + [3] * 3 + [6] * 2 + [7] * 9
        self.assertEqual(told, list(zip(lows, highs)))

    def test_no_such_place(self):
        for number in (0, -1, 16, 17, THIRTY, -THIRTY, -15):
            check_refused(self, NoPlace, place_in, MIXED, number)

    def test_of_nothing(self):
        for room, deep in ((1, 1), (20, 10), (3, 4)):
            nothing = empty_ladder(room, deep)
            for x in (-1, 0, 1, THIRTY):
                self.assertEqual(at_most_in(nothing, x), (0, 0))
                check_refused(self, NoPlace, place_in, nothing, x)
            self.assertEqual(sum_in(nothing), (0, 0))

    def test_single_numbers_are_told_just_so(self):
        ladder = ladder_by(20, 10, {(0, 0): 2, (0, 7): 1, (0, 1023): THIRTY})
        asked = (-1, 0, 6, 7, 1022, 1023)
        counts = (0, 2, 2, 3, 3, THIRTY + 3)
        self.assertEqual([at_most_in(ladder, x) for x in asked], [(count, count) for count in counts])
        self.assertEqual(sum_in(ladder), (7 + 1023 * THIRTY, 7 + 1023 * THIRTY))
        asked = (1, 2, 3, 4, THIRTY, THIRTY + 3)
        self.assertEqual([place_in(ladder, number)[0] for number in asked], [0, 0, 7, 1023, 1023, 1023])
        self.assertEqual([place_in(ladder, number)[1] for number in asked], [0, 0, 7, 1023, 1023, 1023])
        check_refused(self, NoPlace, place_in, ladder, THIRTY + 4)

    def test_all_at_the_top(self):
        for deep in range(1, 11):
            ladder, last = ladder_by(1, deep, {(deep, 0): 3}), 2 ** deep - 1
            self.assertEqual([at_most_in(ladder, x) for x in (-1, 0, last - 1, last)], [(0, 0), (0, 3), (0, 3), (3, 3)])
            self.assertEqual(sum_in(ladder), (0, 3 * last))
            self.assertEqual([place_in(ladder, number) for number in (1, 2, 3)], [(0, last)] * 3)

    def test_kinds(self):
        for told in (at_most_in(MIXED, 3), sum_in(MIXED), place_in(MIXED, 3), at_most_in(empty_ladder(1, 1), 0)):
            self.assertIs(type(told), tuple)
            self.assertEqual([type(part) for part in told], [int, int])


class DrawnLaddersTest(unittest.TestCase):
    """Of any ladder, its pairs folding or not."""

    def test_by_the_ends_of_the_stretches(self):
        source = random.Random(91)
        for turn in range(600):
            ladder = drawn_ladder(source, source.randrange(1, 21), source.randrange(1, 11))
            before = copy.deepcopy(ladder)
            low, high = first_ends(ladder), last_ends(ladder)
            for x in numbers_to_ask(source, ladder):
                self.assertEqual(at_most_in(ladder, x), (at_most_by(high, x), at_most_by(low, x)))
            self.assertEqual(sum_in(ladder), (sum_by(low), sum_by(high)))
            if ladder[3] > 0:
                for place in places_to_ask(source, ladder, []):
                    self.assertEqual(place_in(ladder, place), (place_by(low, place), place_by(high, place)))
            for place in (0, -1, -ladder[3], ladder[3] + 1, 2 * ladder[3] + 1, -THIRTY):
                check_refused(self, NoPlace, place_in, ladder, place)
            self.assertEqual(ladder, before)

    def test_a_place_is_the_least_number_that_reaches_it(self):
        source = random.Random(92)
        for turn in range(200):
            deep = source.randrange(1, 6)
            ladder = drawn_ladder(source, source.randrange(1, 21), deep)
            if ladder[3] == 0:
                continue
            bounds = [at_most_in(ladder, x) for x in range(2 ** deep)]
            for place in places_to_ask(source, ladder, []):
                low = min(x for x in range(2 ** deep) if bounds[x][1] >= place)
                high = min(x for x in range(2 ** deep) if bounds[x][0] >= place)
                self.assertEqual(place_in(ladder, place), (low, high))

    def test_whatever_is_dealt_to_the_stretches_keeps_within(self):
        source = random.Random(93)
        for turn in range(300):
            ladder = drawn_ladder(source, source.randrange(1, 21), source.randrange(1, 11))
            check_bounds(self, source, ladder, dealt(source, ladder))


class DrawnTreesTest(unittest.TestCase):
    def test_bounds_hold_for_every_tree(self):
        source = random.Random(94)
        for room, deep in itertools.product(range(1, 21), range(1, 11)):
            tree = drawn_number_tree(source, room, deep)
            ladder = grown_ladder(room, deep, tree)
            check_bounds(self, source, ladder, plain_numbers(tree))
            for x in numbers_to_ask(source, ladder):
                least, most = at_most_in(ladder, x)
                self.assertLessEqual(most - least, ladder[3] // room * deep)

    def test_bounds_are_no_wider_than_the_bar_times_the_depth(self):
        source = random.Random(95)
        narrow = 0
        for turn in range(1500):
            ladder = drawn_ladder(source, source.randrange(1, 21), source.randrange(1, 11))
            bar = ladder[3] // ladder[0]
            if all(count <= bar for stretch, count in ladder[2] if stretch[0] > 0):
                narrow = narrow + 1
                for x in numbers_to_ask(source, ladder):
                    least, most = at_most_in(ladder, x)
                    self.assertLessEqual(most - least, bar * ladder[1])
        self.assertGreater(narrow, 300)
