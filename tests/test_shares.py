import itertools
import random
import unittest

from sumshare.errors import NoShare, TooCoarse
from sumshare.meeting import trees_for
from sumshare.shares import frequent
from sumshare.tallies import grown_tally
from tests.samples import MANY_WORDS, THIRTY, check_refused, drawn_tally, drawn_tree, plain_times

TALLY = (4, (("a", 10), ("b", 5), ("c", 1), ("d", 30)), 4, 46 + 24)

NO_SHARES = (
    (-1, 1), (-1, 2), (0, 0), (1, 1), (2, 1), (5, 5), (0, -1), (-2, -1), (-1, -2), (3, -5), (-1, 0), (1, 0),
    (THIRTY, THIRTY), (THIRTY, 1), (-THIRTY, THIRTY), (0, -THIRTY),
)


def above(times, total, top, bottom):
    return times * bottom > top * total


def some_shares(source, tally):
    """Shares of which some are just a count, or a count and let, of the total: the edge of being above."""
    room, counts, let, total = tally
    shares = [(0, 1), (0, THIRTY), (1, 2), (1, room + 1), (room, room + 1), (THIRTY - 1, THIRTY), (1, THIRTY)]
    for mark, count in counts:
        for top in (count - 1, count, count + let - 1, count + let, count + let + 1):
            shares.append((top, total))
    shares = shares + [(let, total), (let - 1, total), (source.randrange(50), source.randrange(1, 60))]
    return [(top, bottom) for top, bottom in shares if 0 <= top < bottom]


class FrequentTest(unittest.TestCase):
    def test_sure_ones_and_open_ones(self):
        self.assertEqual(frequent(TALLY, 1, 10), (["a", "d"], ["b"]))
        self.assertEqual(frequent(TALLY, 2, 10), (["d"], []))
        self.assertEqual(frequent(TALLY, 3, 7), ([], ["d"]))
        self.assertEqual(frequent(TALLY, 9, 10), ([], []))

    def test_at_a_share_is_not_above_it(self):
        self.assertEqual(frequent(TALLY, 10, 70), (["d"], ["a"]))
        self.assertEqual(frequent(TALLY, 9, 70), (["a", "d"], []))
        self.assertEqual(frequent(TALLY, 14, 70), (["d"], []))
        self.assertEqual(frequent(TALLY, 13, 70), (["d"], ["a"]))
        self.assertEqual(frequent(TALLY, 34, 70), ([], []))

    def test_both_lists_rise(self):
        counts = tuple((mark, 1 + place % 3) for place, mark in enumerate(sorted(MANY_WORDS)[:20]))
        counted = sum(count for mark, count in counts)
        sure, others = frequent((20, counts, 1, counted + 21), 1, 30)
        self.assertEqual(sure, [mark for mark, count in counts if count == 3])
        self.assertEqual(others, [mark for mark, count in counts if count == 2])

    def test_a_share_of_0(self):
        self.assertEqual(frequent((3, (("a", 1), ("b", 9)), 0, 10), 0, 1), (["a", "b"], []))
        self.assertEqual(frequent((3, (), 0, 0), 0, 1), ([], []))
        check_refused(self, TooCoarse, frequent, (3, (), 1, 4), 0, 1)

    def test_of_nothing(self):
        for top, bottom in ((0, 1), (0, THIRTY), (1, 2), (THIRTY - 1, THIRTY)):
            self.assertEqual(frequent((5, (), 0, 0), top, bottom), ([], []))

    def test_no_share(self):
        for top, bottom in NO_SHARES:
            for tally in (TALLY, (1, (), 0, 0), (3, (), 5, 20), (1, (("a", 7),), 0, 7)):
                check_refused(self, NoShare, frequent, tally, top, bottom)

    def test_too_coarse(self):
        self.assertEqual(frequent(TALLY, 4, 70), (["a", "b", "d"], ["c"]))
        check_refused(self, TooCoarse, frequent, TALLY, 3, 70)
        check_refused(self, TooCoarse, frequent, TALLY, 0, 1)
        check_refused(self, TooCoarse, frequent, TALLY, 1, THIRTY)
        check_refused(self, TooCoarse, frequent, (1, (), THIRTY, 2 * THIRTY), 1, 3)
        self.assertEqual(frequent((1, (), THIRTY, 2 * THIRTY), 1, 2), ([], []))

    def test_no_share_goes_ahead_of_too_coarse(self):
        for top, bottom in ((0, 0), (-1, 1), (-5, 70), (1, 1)):
            check_refused(self, NoShare, frequent, (3, (), 5, 20), top, bottom)

    def test_lists_are_the_askers_own(self):
        sure, others = frequent(TALLY, 1, 10)
        self.assertIs(type(sure), list)
        self.assertIs(type(others), list)
        sure.clear()
        others.append("z")
        self.assertEqual(frequent(TALLY, 1, 10), (["a", "d"], ["b"]))
        one, other = frequent((1, (), 0, 0), 0, 1)
        one.append("a")
        self.assertEqual(other, [])
        self.assertEqual(frequent((1, (), 0, 0), 0, 1), ([], []))


class DrawnTest(unittest.TestCase):
    def check_tree(self, tally, tree, top, bottom):
        times, total = plain_times(tree), tally[3]
        if tally[2] * bottom > top * total:
            check_refused(self, TooCoarse, frequent, tally, top, bottom)
            return 0
        sure, others = frequent(tally, top, bottom)
        self.assertEqual(sure, sorted(set(sure)))
        self.assertEqual(others, sorted(set(others)))
        self.assertEqual(set(sure) & set(others), set())
        for mark in sure:
            self.assertTrue(above(times[mark], total, top, bottom))
        for mark in times:
            if above(times[mark], total, top, bottom):
                self.assertIn(mark, sure + others)
        return len(others)

    def test_of_drawn_trees(self):
        source = random.Random(41)
        seen = 0
        for room in list(range(1, 21)) * 8:
            tree = drawn_tree(source, room)
            tally = grown_tally(room, tree)
            for top, bottom in some_shares(source, tally):
                seen = seen + self.check_tree(tally, tree, top, bottom)
        self.assertGreater(seen, 100)

    def test_an_open_mark_may_be_above_and_may_not(self):
        source = random.Random(42)
        seen = 0
        for room in list(range(1, 21)) * 5:
            tally = drawn_tally(source, room)
            for top, bottom in some_shares(source, tally):
                if tally[2] * bottom > top * tally[3]:
                    continue
                for mark in frequent(tally, top, bottom)[1]:
                    few, many = [plain_times(tree).get(mark, 0) for tree in trees_for(tally, mark)]
                    self.assertFalse(above(few, tally[3], top, bottom))
                    self.assertTrue(above(many, tally[3], top, bottom))
                    seen = seen + 1
        self.assertGreater(seen, 100)

    def test_every_share_of_a_small_tally(self):
        for top, bottom in itertools.product(range(-2, 75), range(-2, 75)):
            if not 0 <= top < bottom:
                check_refused(self, NoShare, frequent, TALLY, top, bottom)
            elif 4 * bottom > top * 70:
                check_refused(self, TooCoarse, frequent, TALLY, top, bottom)
            else:
                sure = [mark for mark, count in TALLY[1] if above(count, 70, top, bottom)]
                either = [mark for mark, count in TALLY[1] if above(count + 4, 70, top, bottom)]
                told = frequent(TALLY, top, bottom)
                self.assertEqual(told[0], sure)
                self.assertEqual(told[1], [mark for mark in either if mark not in sure])
