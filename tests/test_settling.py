import copy
import itertools
import random
import unittest

from sumshare.settling import folds_in, settled
from sumshare.stretches import parent_of
from tests.ladder_samples import drawn_ladder, ladder_by, plain_settled, stretches_of
from tests.samples import THIRTY


def replayed(ladder, folds):
    """What comes of the folds, each done by itself."""
    counts = dict(ladder[2])
    for stretch, many in folds:
        counts[stretch] = counts[stretch] - many
        counts[parent_of(stretch)] = counts.get(parent_of(stretch), 0) + many
    return ladder_by(ladder[0], ladder[1], {stretch: count for stretch, count in counts.items() if count != 0})


def drops_in(folds):
    """How often a fold stands behind one of a greater height."""
    return sum(one[0][0] > other[0][0] for one, other in zip(folds, folds[1:]))


class ByHandTest(unittest.TestCase):
    def check(self, room, deep, counts, after, folds):
        ladder = ladder_by(room, deep, counts)
        told = ladder_by(room, deep, after)
        self.assertEqual(settled(ladder), told)
        self.assertEqual(folds_in(ladder), folds)
        self.assertEqual(settled(told), told)
        self.assertEqual(folds_in(told), [])
        self.assertEqual(plain_settled(ladder), (told, folds))

    def test_nothing(self):
        for room in (1, 20):
            for deep in (1, 10):
                self.check(room, deep, {}, {}, [])

    def test_a_pair_folds_at_the_bar_and_not_above_it(self):
        # The bar is 5.
        self.check(2, 1, {(0, 0): 3, (0, 1): 2, (1, 0): 5}, {(0, 0): 3, (0, 1): 2, (1, 0): 5}, [])
        self.check(2, 2, {(0, 0): 3, (0, 1): 2, (0, 2): 5}, {(1, 0): 5, (1, 1): 5}, [
            ((0, 0), 3), ((0, 1), 2), ((0, 2), 5),
        ])
        self.check(2, 2, {(0, 0): 3, (0, 1): 3, (0, 2): 4}, {(0, 0): 3, (0, 1): 3, (2, 0): 4}, [
            ((0, 2), 4), ((1, 1), 4),
        ])

    def test_what_stands_at_the_parent_counts_too(self):
        # The bar is 5.
        self.check(2, 2, {(0, 0): 2, (0, 1): 2, (1, 0): 1, (0, 3): 5}, {(1, 0): 5, (1, 1): 5}, [
            ((0, 0), 2), ((0, 1), 2), ((0, 3), 5),
        ])
        self.check(2, 2, {(0, 0): 2, (0, 1): 2, (1, 0): 2, (0, 3): 4}, {
            (0, 0): 2, (0, 1): 2, (1, 0): 2, (1, 1): 4,
        }, [((0, 3), 4)])

    def test_the_bar_is_rounded_down(self):
        # 11 // 4 is 2, 12 // 4 is 3.
        self.check(4, 2, {(0, 0): 3, (0, 2): 8}, {(0, 0): 3, (0, 2): 8}, [])
        self.check(4, 2, {(0, 0): 3, (0, 2): 9}, {(0, 2): 9, (2, 0): 3}, [((0, 0), 3), ((1, 0), 3)])
        self.check(20, 1, {(0, 0): 1, (0, 1): 18}, {(0, 0): 1, (0, 1): 18}, [])
        self.check(20, 2, {(0, 0): 1, (0, 2): 19}, {(0, 2): 19, (2, 0): 1}, [((0, 0), 1), ((1, 0), 1)])

    def test_one_of_two_goes_alone(self):
        for index in (4, 5):
            self.check(2, 3, {(0, index): 1, (0, 0): 9}, {(0, 0): 9, (3, 0): 1}, [
                ((0, index), 1), ((1, 2), 1), ((2, 1), 1),
            ])

    def test_a_parent_alone_does_not_make_a_pair_fold(self):
        self.check(2, 2, {(1, 0): 4, (1, 1): 4}, {(1, 0): 4, (1, 1): 4}, [])
        self.check(1, 1, {(1, 0): 4}, {(1, 0): 4}, [])

    def test_with_room_1_all_comes_to_the_top(self):
        self.check(1, 1, {(0, 1): 7}, {(1, 0): 7}, [((0, 1), 7)])
        self.check(1, 2, {(0, 0): 1, (0, 3): THIRTY, (1, 1): 2}, {(2, 0): THIRTY + 3}, [
            ((0, 0), 1), ((0, 3), THIRTY), ((1, 0), 1), ((1, 1), THIRTY + 2),
        ])
        for deep in range(1, 11):
            ladder = ladder_by(1, deep, {stretch: 2 for stretch in stretches_of(deep)})
            self.assertEqual(settled(ladder), ladder_by(1, deep, {(deep, 0): 2 * len(stretches_of(deep))}))
            self.assertEqual(len(folds_in(ladder)), len(stretches_of(deep)) - 1)

    def test_the_top_stays(self):
        for deep in range(1, 11):
            for room in (1, 2, 20):
                self.check(room, deep, {(deep, 0): 5}, {(deep, 0): 5}, [])

    def test_lowest_first_then_the_least_index(self):
        self.check(2, 3, {(1, 1): 1, (0, 6): 1, (0, 5): 1, (0, 0): 20}, {(0, 0): 20, (3, 0): 3}, [
            ((0, 5), 1), ((0, 6), 1), ((1, 1), 1), ((1, 2), 1), ((1, 3), 1), ((2, 0), 1), ((2, 1), 2),
        ])

    def test_the_lowest_first_tells_what_comes(self):
        # The bar is 10: the highest first, 4 would stay at (2, 0), and 8 come to the top.
        self.check(3, 3, {(0, 0): 4, (1, 0): 4, (2, 0): 4, (0, 7): 18}, {(0, 7): 18, (2, 0): 8, (3, 0): 4}, [
            ((0, 0), 4), ((2, 0), 4), ((1, 0), 8),
        ])

    def test_a_higher_fold_makes_a_lower_pair_fold(self):
        # The bar is 11: above the two 4 stand 8, so they don't fold until the 8 have gone on.
        self.check(3, 3, {(0, 0): 4, (0, 1): 4, (1, 0): 8, (3, 0): 5, (0, 7): 13}, {
            (0, 7): 13, (1, 0): 8, (2, 0): 8, (3, 0): 5,
        }, [((1, 0), 8), ((0, 0), 4), ((0, 1), 4)])

    def test_it_goes_up_and_down_again(self):
        # The bar is 10: here the second 8 follow the first ones as soon as these have gone on again.
        self.check(3, 3, {(0, 0): 4, (0, 1): 4, (1, 0): 8, (0, 7): 14}, {(0, 7): 14, (2, 0): 8, (3, 0): 8}, [
            ((1, 0), 8), ((0, 0), 4), ((0, 1), 4), ((2, 0), 8), ((1, 0), 8),
        ])

    def test_great_counts(self):
        self.check(2, 2, {(0, 0): THIRTY, (0, 1): 1, (0, 2): THIRTY + 1}, {(1, 0): THIRTY + 1, (1, 1): THIRTY + 1}, [
            ((0, 0), THIRTY), ((0, 1), 1), ((0, 2), THIRTY + 1),
        ])
        self.check(2, 2, {(0, 0): THIRTY, (0, 1): 2, (0, 2): THIRTY}, {(0, 0): THIRTY, (0, 1): 2, (2, 0): THIRTY}, [
            ((0, 2), THIRTY), ((1, 1), THIRTY),
        ])


class DrawnTest(unittest.TestCase):
    def test_by_folding_the_first_pair(self):
        source = random.Random(73)
        stayed = dropped = 0
        for turn in range(2000):
            room, deep = source.randrange(1, 21), source.randrange(1, 11)
            ladder = drawn_ladder(source, room, deep)
            before = copy.deepcopy(ladder)
            told, folds = plain_settled(ladder)
            self.assertEqual(settled(ladder), told)
            self.assertEqual(folds_in(ladder), folds)
            self.assertEqual(ladder, before)
            self.assertEqual(settled(told), told)
            self.assertEqual(folds_in(told), [])
            self.assertEqual(replayed(ladder, folds), told)
            stayed = stayed + (folds == [])
            dropped = dropped + (drops_in(folds) > 0)
        self.assertGreater(stayed, 100)
        self.assertGreater(dropped, 100)

    def test_every_small_one(self):
        for deep, most in ((1, 6), (2, 2)):
            stretches = stretches_of(deep)
            for values in itertools.product(range(most + 1), repeat=len(stretches)):
                counts = {stretch: count for stretch, count in zip(stretches, values) if count > 0}
                for room in (1, 2, 3):
                    ladder = ladder_by(room, deep, counts)
                    self.assertEqual((settled(ladder), folds_in(ladder)), plain_settled(ladder))

    def test_many_counts(self):
        source = random.Random(75)
        for room in (1, 2, 7, 20):
            counts = {stretch: source.randrange(1, 9) for stretch in source.sample(stretches_of(10), 300)}
            ladder = ladder_by(room, 10, counts)
            self.assertEqual((settled(ladder), folds_in(ladder)), plain_settled(ladder))


class OwnTest(unittest.TestCase):
    def test_kinds(self):
        ladder = ladder_by(2, 3, {(0, 0): 1, (0, 1): 1, (0, 7): 9})
        told, folds = settled(ladder), folds_in(ladder)
        self.assertIs(type(told), tuple)
        self.assertIs(type(told[2]), tuple)
        for stretch, count in told[2]:
            self.assertEqual((type(stretch), type(count)), (tuple, int))
        self.assertIs(type(folds), list)
        for fold in folds:
            self.assertEqual((type(fold), type(fold[0]), type(fold[1])), (tuple, tuple, int))

    def test_lists_are_the_askers_own(self):
        for counts in ({}, {(0, 0): 1, (0, 1): 1, (0, 7): 9}):
            ladder = ladder_by(2, 3, counts)
            told = folds_in(ladder)
            kept = list(told)
            told.append(((0, 0), 1))
            self.assertEqual(folds_in(ladder), kept)
            folds_in(ladder).clear()
            self.assertEqual(folds_in(ladder), kept)
