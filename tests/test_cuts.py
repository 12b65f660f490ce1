import itertools
import random
import unittest

from sumshare.cuts import cut_of
from tests.samples import THIRTY

MARKS = [one + other for one in "abcdefgh" for other in "abcdefgh"]


def counted_cut(room, sums):
    """By what the cut is for: the greatest value that more than room sums reach, one by one."""
    reached = [value for value in sums.values() if len([1 for other in sums.values() if other >= value]) > room]
    return max(reached, default=0)


class CutTest(unittest.TestCase):
    def test_0_where_there_is_room(self):
        self.assertEqual(cut_of(1, {}), 0)
        self.assertEqual(cut_of(20, {}), 0)
        self.assertEqual(cut_of(1, {"a": 5}), 0)
        self.assertEqual(cut_of(2, {"a": 5, "b": 7}), 0)
        self.assertEqual(cut_of(3, {"a": 5, "b": 7}), 0)
        self.assertEqual(cut_of(3, {"a": 5, "b": 5, "c": 5}), 0)

    def test_else_the_next_greatest_behind_the_room(self):
        sums = {"a": 5, "b": 7, "c": 1, "d": 9}
        self.assertEqual([cut_of(room, sums) for room in (1, 2, 3, 4, 5)], [7, 5, 1, 0, 0])

    def test_alike_ones_count_one_by_one(self):
        sums = {"a": 5, "b": 7, "c": 5, "d": 7, "e": 7}
        self.assertEqual([cut_of(room, sums) for room in (1, 2, 3, 4, 5)], [7, 7, 5, 5, 0])
        self.assertEqual(cut_of(1, {"a": 4, "b": 4}), 4)
        self.assertEqual(cut_of(2, {"a": 1, "b": 1, "c": 1}), 1)

    def test_sums_go_as_numbers_not_as_their_figures(self):
        self.assertEqual(cut_of(1, {"a": 9, "b": 10, "c": 100}), 10)

    def test_the_same_in_whatever_order(self):
        pairs = [("a", 3), ("b", 1), ("c", 3), ("d", 8), ("e", 2)]
        for room, cut in ((1, 3), (2, 3), (3, 2), (4, 1), (5, 0)):
            for order in itertools.permutations(pairs):
                self.assertEqual(cut_of(room, dict(order)), cut)

    def test_sums_of_thirty_figures(self):
        sums = {"a": THIRTY, "b": THIRTY - 1, "c": THIRTY - 2, "d": 1}
        self.assertEqual([cut_of(room, sums) for room in (1, 2, 3, 4)], [THIRTY - 1, THIRTY - 2, 1, 0])

    def test_a_room_greater_than_20(self):
        sums = {mark: place + 1 for place, mark in enumerate(MARKS)}
        for room in (20, 21, 30, 62, 63):
            self.assertEqual(cut_of(room, sums), 64 - room)
        for room in (64, 65, 300, THIRTY):
            self.assertEqual(cut_of(room, sums), 0)

    def test_by_a_plain_count(self):
        source = random.Random(21)
        for turn in range(300):
            marks = source.sample(MARKS, source.randrange(30))
            sums = {mark: source.choice((source.randrange(1, 9), THIRTY - source.randrange(4))) for mark in marks}
            room = source.randrange(1, 26)
            self.assertEqual(cut_of(room, sums), counted_cut(room, sums))

    def test_the_dict_stays(self):
        for room in (1, 2, 3, 4):
            sums = {"c": 5, "a": 7, "b": 5}
            before = list(sums.items())
            told = cut_of(room, sums)
            self.assertEqual(list(sums.items()), before)
            self.assertEqual(cut_of(room, sums), told)

    def test_a_dict_that_was_changed_is_cut_anew(self):
        sums = {"a": 3, "b": 2}
        self.assertEqual(cut_of(1, sums), 2)
        sums["c"] = 9
        self.assertEqual(cut_of(1, sums), 3)
