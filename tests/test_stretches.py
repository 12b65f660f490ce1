import itertools
import random
import unittest

from sumshare.stretches import first_of, is_stretch, is_within, last_of, pair_of, parent_of, stretch_at
from tests.ladder_samples import stretches_of
from tests.samples import NO_WHOLES, THIRTY


def numbers_in(stretch):
    return list(range(first_of(stretch), last_of(stretch) + 1))


class NumbersTest(unittest.TestCase):
    def check(self, stretch, first, last):
        self.assertEqual((first_of(stretch), last_of(stretch)), (first, last))
        self.assertIs(type(first_of(stretch)), int)
        self.assertIs(type(last_of(stretch)), int)

    def test_by_hand(self):
        self.check((0, 0), 0, 0)
        self.check((0, 1), 1, 1)
        self.check((0, 1023), 1023, 1023)
        self.check((1, 0), 0, 1)
        self.check((1, 3), 6, 7)
        self.check((3, 5), 40, 47)
        self.check((9, 1), 512, 1023)
        self.check((10, 0), 0, 1023)

    def test_beyond_the_end_of_a_ladder(self):
        self.check((10, 1), 1024, 2047)
        self.check((0, THIRTY), THIRTY, THIRTY)
        self.check((1, THIRTY), 2 * THIRTY, 2 * THIRTY + 1)
        self.check((10, THIRTY), 1024 * THIRTY, 1024 * THIRTY + 1023)
        self.check((25, 3), 3 * 2 ** 25, 4 * 2 ** 25 - 1)
        self.check((100, 0), 0, 2 ** 100 - 1)

    def test_the_stretches_of_a_height_stand_side_by_side(self):
        for deep in range(1, 11):
            rows = {}
            for stretch in stretches_of(deep):
                rows[stretch[0]] = rows.get(stretch[0], []) + numbers_in(stretch)
                self.assertEqual(len(numbers_in(stretch)), 2 ** stretch[0])
            for height in range(deep + 1):
                self.assertEqual(rows[height], list(range(2 ** deep)))

    def test_the_last_is_just_ahead_of_the_next_first(self):
        source = random.Random(71)
        for turn in range(300):
            height, index = source.randrange(30), source.choice((source.randrange(50), source.randrange(THIRTY)))
            self.check((height, index), index * 2 ** height, first_of((height, index + 1)) - 1)


class ParentTest(unittest.TestCase):
    def test_by_hand(self):
        parents = [parent_of((0, index)) for index in range(5)]
        self.assertEqual(parents, [(1, 0), (1, 0), (1, 1), (1, 1), (1, 2)])
        self.assertEqual(parent_of((9, 1)), (10, 0))
        self.assertEqual(parent_of((3, THIRTY)), (4, THIRTY // 2))
        self.assertIs(type(parent_of((0, 0))), tuple)

    def test_a_parent_has_the_numbers_of_its_pair(self):
        for height, half in itertools.product(range(9), range(40)):
            one, other, parent = (height, 2 * half), (height, 2 * half + 1), (height + 1, half)
            self.assertEqual((parent_of(one), parent_of(other)), (parent, parent))
            self.assertEqual(numbers_in(one) + numbers_in(other), numbers_in(parent))
            self.assertEqual((pair_of(one), pair_of(other)), ((one, other), (one, other)))


class WithinTest(unittest.TestCase):
    def test_by_hand(self):
        for one, other, told in (
            ((0, 5), (0, 5), True), ((0, 5), (0, 4), False), ((0, 5), (1, 2), True), ((1, 2), (0, 5), False),
            ((0, 5), (1, 3), False), ((0, 5), (3, 0), True), ((3, 0), (3, 0), True), ((3, 0), (0, 0), False),
            ((2, 1), (3, 1), False), ((1, 0), (10, 0), True), ((0, 1024), (10, 0), False), ((0, 1024), (10, 1), True),
            ((10, 0), (9, 0), False), ((0, THIRTY), (1, THIRTY // 2), True), ((0, THIRTY), (1, 1), False),
            ((0, THIRTY), (100, 0), True), ((0, THIRTY), (THIRTY, 0), True), ((THIRTY, 0), (0, 0), False),
        ):
            with self.subTest((one, other)):
                self.assertIs(is_within(one, other), told)

    def test_by_the_numbers(self):
        # Some of them lie beyond the end of a ladder of this depth.
        stretches = stretches_of(4) + [(height, index) for height in range(5) for index in (17, 18, 33)]
        for one, other in itertools.product(stretches, repeat=2):
            self.assertIs(is_within(one, other), set(numbers_in(one)) <= set(numbers_in(other)))

    def test_each_parent_in_turn(self):
        source = random.Random(72)
        for turn in range(100):
            stretch = here = (source.randrange(5), source.randrange(THIRTY))
            for step in range(20):
                self.assertIs(is_within(stretch, here), True)
                self.assertIs(is_within(stretch, (here[0], here[1] + 1)), False)
                self.assertIs(is_within(here, stretch), step == 0)
                here = parent_of(here)


class StretchAtTest(unittest.TestCase):
    def test_by_hand(self):
        told = [stretch_at(height, 6) for height in range(5)]
        self.assertEqual(told, [(0, 6), (1, 3), (2, 1), (3, 0), (4, 0)])
        self.assertEqual(stretch_at(10, 1023), (10, 0))
        self.assertEqual(stretch_at(10, 1024), (10, 1))
        self.assertEqual(stretch_at(0, THIRTY), (0, THIRTY))
        self.assertEqual(stretch_at(1, THIRTY), (1, THIRTY // 2))
        self.assertIs(type(stretch_at(0, 0)), tuple)

    def test_great_heights(self):
        for height in (100, 1000, 10 ** 9, THIRTY):
            for x in (0, 1, THIRTY):
                self.assertEqual(stretch_at(height, x), (height, 0))

    def test_it_has_the_number(self):
        for height, x in itertools.product(range(12), list(range(70)) + [1022, 1023, 1024, 5000, THIRTY]):
            stretch = stretch_at(height, x)
            self.assertEqual(stretch[0], height)
            self.assertLessEqual(first_of(stretch), x)
            self.assertLessEqual(x, last_of(stretch))
            self.assertIs(is_within((0, x), stretch), True)


class IsStretchTest(unittest.TestCase):
    def test_all_of_a_depth_and_none_beyond(self):
        for deep in range(1, 11):
            for stretch in stretches_of(deep):
                self.assertIs(is_stretch(stretch, deep), True)
            for height in range(deep + 1):
                self.assertIs(is_stretch((height, 2 ** (deep - height)), deep), False)
                self.assertIs(is_stretch((height, -1), deep), False)
            for stretch in ((deep + 1, 0), (-1, 0), (THIRTY, 0), (-THIRTY, 0), (0, THIRTY)):
                self.assertIs(is_stretch(stretch, deep), False)

    def test_whatever_thing(self):
        for spoilt in NO_WHOLES:
            self.assertIs(is_stretch((spoilt, 0), 3), False)
            self.assertIs(is_stretch((0, spoilt), 3), False)
        for thing in (None, True, 0, "", "ab", [0, 0], (), (0,), (0, 0, 0), ((0, 0),), {0: 0, 1: 1}, object()):
            self.assertIs(is_stretch(thing, 3), False)
