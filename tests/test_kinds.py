import unittest

from sumshare.kinds import (
    added_counts, are_counts, is_mark, is_rising, is_room, is_whole, is_whole_from, is_whole_within,
)
from tests.samples import MANY_WORDS, NO_MARKS, NO_WHOLES, THIRTY, WORDS


class KindsTest(unittest.TestCase):
    def test_whole_numbers(self):
        for thing in (0, 1, -1, THIRTY, -THIRTY):
            self.assertIs(is_whole(thing), True)
        for thing in NO_WHOLES:
            self.assertIs(is_whole(thing), False)
            self.assertIs(is_whole_from(thing, -5), False)
            self.assertIs(is_whole_within(thing, -5, 5), False)

    def test_whole_numbers_from_and_within(self):
        self.assertEqual([is_whole_from(x, 1) for x in (-1, 0, 1, 2, THIRTY)], [False, False, True, True, True])
        told = [is_whole_within(x, 1, 20) for x in (-1, 0, 1, 2, 20, 21, THIRTY)]
        self.assertEqual(told, [False, False, True, True, True, False, False])

    def test_marks(self):
        for thing in list(WORDS) + MANY_WORDS:
            self.assertIs(is_mark(thing), True)
        for thing in NO_MARKS:
            self.assertIs(is_mark(thing), False)

    def test_rising(self):
        for values in ([], (), ["a"], ("a", "b"), ["a", "aa", "ab", "b"], (1, 2, 9), [(0, 9), (1, 0)]):
            self.assertIs(is_rising(values), True)
        for values in (("a", "a"), ["b", "a"], ("a", "c", "b"), ["a", "b", "b"], ("aa", "a"), (1, 10, 9)):
            self.assertIs(is_rising(values), False)

    def test_rooms(self):
        for thing in range(1, 21):
            self.assertIs(is_room(thing), True)
        for thing in (0, -1, 21, THIRTY, -THIRTY) + NO_WHOLES:
            self.assertIs(is_room(thing), False)

    def test_counts(self):
        for thing in ((), (("a", 1),), (("a", 2), ("aa", THIRTY), ("b", 1))):
            self.assertIs(are_counts(thing, is_mark), True)
        for thing in (
            (("a", 0),), (("a", -1),), (("a", True),), (("A", 1),), (("b", 1), ("a", 1)), (("a", 1), ("a", 1)),
            [("a", 1)], (["a", 1],), ("a", 1), (("a",),), (("a", 1, 1),), "", None, 0,
        ):
            self.assertIs(are_counts(thing, is_mark), False)
        self.assertIs(are_counts(((1, 1), (2, 1)), is_room), True)
        self.assertIs(are_counts(((1, 1), ("a", 1)), is_room), False)

    def test_added_counts(self):
        one, other = (("a", 1), ("b", 2)), (("b", THIRTY), ("c", 4))
        self.assertEqual(added_counts(one, other), {"a": 1, "b": THIRTY + 2, "c": 4})
        self.assertEqual(added_counts(other, one), added_counts(one, other))
        self.assertEqual((added_counts(one, ()), added_counts((), ())), (dict(one), {}))
