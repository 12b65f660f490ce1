import copy
import itertools
import random
import unittest

from sumshare.errors import NoNumber, NoRoom
from sumshare.ladders import empty_ladder, grown_ladder, is_ladder, ladder_of, merged_ladder
from sumshare.settling import folds_in
from tests.ladder_samples import (
    drawn_ladder, drawn_number_tree, ladder_by, plain_ladder, plain_merged_ladder, plain_numbers, plain_settled,
    stream_by, stretches_of, trees_with_one_beyond,
)
from tests.samples import (
    NO_WHOLES, PLAIN, THIRTY, check_refused, leaning_left, leaning_right, lists_in, turned,
)


class MergedTest(unittest.TestCase):
    def check(self, one, other, told):
        self.assertEqual(merged_ladder(one, other), told)
        self.assertEqual(merged_ladder(other, one), told)

    def test_nothing(self):
        for room, deep in itertools.product(range(1, 21), range(1, 11)):
            nothing = empty_ladder(room, deep)
            self.assertEqual(nothing, (room, deep, (), 0))
            self.check(nothing, nothing, (room, deep, (), 0))

    def test_counts_are_added_stretch_by_stretch(self):
        one, other = ladder_by(3, 2, {(0, 0): 4, (0, 3): 5}), ladder_by(3, 2, {(0, 0): 1, (0, 1): 6})
        # The bar is 5: the 5 fold up to the top.
        self.check(one, other, (3, 2, (((0, 0), 5), ((0, 1), 6), ((2, 0), 5)), 16))

    def test_it_is_settled_by_the_new_bar(self):
        one, other = ladder_by(2, 2, {(0, 0): 3, (0, 1): 2}), ladder_by(2, 2, {(0, 2): 2, (0, 3): 3})
        self.assertEqual((folds_in(one), folds_in(other)), ([], []))
        self.check(one, other, (2, 2, (((1, 0), 5), ((1, 1), 5)), 10))

    def test_great_counts(self):
        one, other = ladder_by(2, 3, {(0, 7): THIRTY}), ladder_by(2, 3, {(0, 0): THIRTY, (0, 7): 1})
        self.check(one, other, (2, 3, (((0, 7), THIRTY + 1), ((3, 0), THIRTY)), 2 * THIRTY + 1))

    def test_unlike_rooms_or_depths_are_refused(self):
        sizes = list(itertools.product((1, 2, 19, 20), (1, 2, 9, 10)))
        for one, other in itertools.permutations(sizes, 2):
            check_refused(self, NoRoom, merged_ladder, empty_ladder(*one), empty_ladder(*other))
            filled = (one + ((((0, 1), 2),), 2), other + ((((0, 1), 2),), 2))
            check_refused(self, NoRoom, merged_ladder, *filled)
        check_refused(self, NoRoom, merged_ladder, empty_ladder(3, 4), empty_ladder(4, 3))

    def test_drawn_ones(self):
        source = random.Random(81)
        for turn in range(1000):
            room, deep = source.randrange(1, 21), source.randrange(1, 11)
            one, other = [plain_settled(drawn_ladder(source, room, deep))[0] for place in (0, 1)]
            before = copy.deepcopy((one, other))
            self.check(one, other, plain_merged_ladder(one, other))
            self.check(one, empty_ladder(room, deep), one)
            self.assertEqual((one, other), before)


class StreamTest(unittest.TestCase):
    def test_thing_by_thing(self):
        stream = stream_by((5, 3), (5, 1), (2, 2), (6, 4), (0, 2))
        told = [
            (2, 3, (), 0),
            (2, 3, (((0, 5), 3),), 3),
            (2, 3, (((0, 5), 4),), 4),
            # The bar is 3, and 2 come to the top.
            (2, 3, (((0, 5), 4), ((3, 0), 2)), 6),
            # The bar is 5: 4 and 4 come each to its parent, and don't fold together.
            (2, 3, (((1, 2), 4), ((1, 3), 4), ((3, 0), 2)), 10),
            # The bar is 6: the new 2 come to (2, 0), and fold with the 2 at the top.
            (2, 3, (((1, 2), 4), ((1, 3), 4), ((3, 0), 4)), 12),
        ]
        self.assertEqual([ladder_of(2, 3, stream[:length]) for length in range(6)], told)
        self.assertEqual([grown_ladder(2, 3, stream[:length]) for length in range(6)], told)

    def test_a_thing_by_itself(self):
        for room, deep in itertools.product(range(2, 21), range(1, 11)):
            for number in (0, 1, 2 ** deep - 1):
                for many in (1, 19, 20, THIRTY):
                    told = (room, deep, (((0, number), many),), many)
                    self.assertEqual(ladder_of(room, deep, stream_by((number, many))), told)

    def test_with_room_1_all_stands_at_the_top(self):
        for deep in range(1, 11):
            stream = stream_by((0, 1), (2 ** deep - 1, THIRTY), (1, 7))
            self.assertEqual(ladder_of(1, deep, stream[:1]), (1, deep, (((deep, 0), 1),), 1))
            self.assertEqual(ladder_of(1, deep, stream), (1, deep, (((deep, 0), THIRTY + 8),), THIRTY + 8))

    def test_days_and_marks_do_not_matter(self):
        stream = [(THIRTY, "a", 5, 3), (0, "zzzzzzzz", 2, 2)]
        self.assertEqual(ladder_of(2, 3, stream), ladder_of(2, 3, stream_by((5, 3), (2, 2))))
        self.assertEqual(ladder_of(20, 4, PLAIN), (20, 4, (((0, 5), 7), ((0, 9), 40), ((4, 0), 1)), 48))

    def test_a_tree_is_merged_not_read_on(self):
        left, right = stream_by((0, 3)), stream_by((3, 1), (3, 3))
        self.assertEqual(grown_ladder(2, 2, ("merged", left, right)), (2, 2, (((0, 3), 4), ((2, 0), 3)), 7))
        self.assertEqual(ladder_of(2, 2, left + right), (2, 2, (((1, 0), 3), ((1, 1), 3), ((2, 0), 1)), 7))
        source = random.Random(82)
        unlike = 0
        for turn in range(200):
            tree = drawn_number_tree(source, 3, 4)
            whole = [thing for stream in lists_in(tree) for thing in stream]
            unlike = unlike + (grown_ladder(3, 4, tree) != ladder_of(3, 4, whole))
        self.assertGreater(unlike, 50)

    def test_trees_of_nothing(self):
        for room, deep in ((1, 1), (20, 10), (3, 4)):
            for tree in ([], ("merged", [], []), ("merged", ("merged", [], []), [])):
                self.assertEqual(grown_ladder(room, deep, tree), (room, deep, (), 0))

    def test_deep_ones(self):
        streams = [stream_by((place * 7 % 64, place + 1), (place, 2)) for place in range(40)]
        for room, length in itertools.product((1, 2, 7, 20), (21, 40)):
            for tree in (leaning_left(streams[:length]), leaning_right(streams[:length])):
                self.assertEqual(grown_ladder(room, 6, tree), plain_ladder(room, 6, tree))


class NoNumberTest(unittest.TestCase):
    def test_the_first_number_that_is_too_great(self):
        for deep in range(1, 11):
            end = 2 ** deep
            for room in (1, 2, 20):
                self.assertEqual(ladder_of(room, deep, stream_by((end - 1, 2)))[3], 2)
                for number in (end, end + 1, 2 * end, THIRTY):
                    check_refused(self, NoNumber, ladder_of, room, deep, stream_by((number, 1)))
                    check_refused(self, NoNumber, grown_ladder, room, deep, stream_by((number, 1)))

    def test_wherever_it_stands_in_a_stream(self):
        for place in range(6):
            stream = stream_by(*[(16 if at == place else at, 1) for at in range(6)])
            check_refused(self, NoNumber, ladder_of, 3, 4, stream)
            self.assertEqual(ladder_of(3, 5, stream)[3], 6)

    def test_wherever_it_stands_in_a_tree(self):
        source = random.Random(83)
        for turn in range(100):
            room, deep = source.randrange(1, 21), source.randrange(1, 11)
            for tree in trees_with_one_beyond(source, deep):
                before = copy.deepcopy(tree)
                check_refused(self, NoNumber, grown_ladder, room, deep, tree)
                self.assertEqual(tree, before)


class DrawnTreesTest(unittest.TestCase):
    """For every tree: what its ladder tells is as much as was seen, nothing long counts much, and there are few."""

    def check_promises(self, ladder, room, deep, tree):
        self.assertEqual(ladder[:2], (room, deep))
        counts, total = dict(ladder[2]), ladder[3]
        self.assertEqual(ladder, ladder_by(room, deep, counts))
        self.assertEqual(total, sum(many for number, many in plain_numbers(tree)))
        bar = total // room
        for (height, index), count in counts.items():
            self.assertIn((height, index), stretches_of(deep))
            self.assertGreaterEqual(count, 1)
            if height > 0:
                self.assertLessEqual(count, bar)
            if height < deep:
                both = counts.get((height, index - index % 2), 0) + counts.get((height, index - index % 2 + 1), 0)
                self.assertGreater(both + counts.get((height + 1, index // 2), 0), bar)
        self.assertLess(len(counts), 4 * room)

    def test_drawn_trees(self):
        source = random.Random(84)
        folded = 0
        for room, deep in list(itertools.product(range(1, 21), range(1, 11))) * 2:
            tree = drawn_number_tree(source, room, deep)
            before = copy.deepcopy(tree)
            ladder = grown_ladder(room, deep, tree)
            self.assertEqual(tree, before)
            self.assertEqual(ladder, plain_ladder(room, deep, tree))
            self.assertIs(is_ladder(ladder), True)
            self.check_promises(ladder, room, deep, tree)
            self.assertEqual(grown_ladder(room, deep, turned(tree)), ladder)
            for aside in (("merged", tree, []), ("merged", [], tree)):
                self.assertEqual(grown_ladder(room, deep, aside), ladder)
            folded = folded + any(stretch[0] > 0 for stretch, count in ladder[2])
        self.assertGreater(folded, 200)

    def test_drawn_streams(self):
        source = random.Random(85)
        for room, deep in itertools.product((1, 2, 3, 10, 20), range(1, 11)):
            draw = source.choice((lambda: 1, lambda: source.randrange(1, 9), lambda: source.randrange(1, THIRTY)))
            stream = stream_by(*[(source.randrange(2 ** deep), draw()) for turn in range(300)])
            before = list(stream)
            ladder = ladder_of(room, deep, stream)
            self.assertEqual(stream, before)
            self.assertEqual(ladder, plain_ladder(room, deep, stream))
            self.check_promises(ladder, room, deep, stream)

    def test_every_small_tree(self):
        things = [(0, "a", number, many) for number in range(4) for many in (1, 2)]
        streams = [[]] + [[thing] for thing in things] + [list(two) for two in itertools.product(things, repeat=2)]
        for one, other in itertools.product(streams, repeat=2):
            tree = ("merged", one, other)
            ladder = grown_ladder(2, 2, tree)
            self.assertEqual(ladder, plain_ladder(2, 2, tree))
            self.check_promises(ladder, 2, 2, tree)

    def test_a_tree_that_changed_is_told_anew(self):
        stream = stream_by((1, 2))
        tree = ("merged", stream, stream_by((0, 1)))
        early = grown_ladder(20, 1, tree)
        stream.append((0, "b", 0, 5))
        self.assertEqual(early, (20, 1, (((0, 0), 1), ((0, 1), 2)), 3))
        self.assertEqual(grown_ladder(20, 1, tree), (20, 1, (((0, 0), 6), ((0, 1), 2)), 8))


GOOD = (3, 3, (((0, 6), 9), ((1, 0), 4), ((2, 0), 4), ((2, 1), 4)), 21)


class IsLadderTest(unittest.TestCase):
    def check(self, thing, told):
        with self.subTest(repr(thing)[:200]):
            self.assertIs(is_ladder(thing), told)

    def test_nothing(self):
        for room, deep in itertools.product(range(1, 21), range(1, 11)):
            self.check((room, deep, (), 0), True)
            self.check((room, deep, (), 1), False)
            self.check((room, deep, (), -1), False)

    def test_settled_ones_and_others(self):
        source = random.Random(86)
        told_true = told_false = 0
        for turn in range(2000):
            ladder = drawn_ladder(source, source.randrange(1, 21), source.randrange(1, 11))
            bar = ladder[3] // ladder[0]
            for one in (ladder, plain_settled(ladder)[0]):
                short = all(count <= bar for stretch, count in one[2] if stretch[0] > 0)
                told = plain_settled(one)[1] == [] and short
                self.check(one, told)
                told_true, told_false = told_true + told, told_false + (not told)
        self.assertGreater(told_true, 500)
        self.assertGreater(told_false, 500)

    def test_a_pair_that_folds(self):
        # The bar is 7, and 8 where there are 12 in the place of the 9: then 4 and 4 fold.
        self.check(GOOD, True)
        self.check(ladder_by(3, 3, {(0, 6): 11, (1, 0): 4, (2, 0): 4, (2, 1): 4}), True)
        self.check(ladder_by(3, 3, {(0, 6): 12, (1, 0): 4, (2, 0): 4, (2, 1): 4}), False)
        self.check(ladder_by(2, 2, {(0, 0): 3, (0, 1): 2, (0, 2): 3, (0, 3): 2}), False)
        self.check(ladder_by(2, 2, {(0, 0): 3, (0, 1): 3, (0, 2): 2, (0, 3): 3}), False)
        self.check(ladder_by(2, 2, {(0, 0): 3, (0, 1): 3, (0, 2): 3, (0, 3): 3}), False)
        self.check(ladder_by(3, 2, {(0, 0): 3, (0, 1): 3, (0, 2): 3, (0, 3): 3}), True)
        self.check(ladder_by(2, 2, {(1, 0): 3, (1, 1): 3}), True)

    def test_a_long_stretch_with_more_than_the_bar(self):
        self.check(ladder_by(2, 1, {(1, 0): 1}), False)
        self.check(ladder_by(1, 1, {(1, 0): 1}), True)
        self.check(ladder_by(2, 1, {(0, 0): 1, (1, 0): 1}), True)
        self.check(ladder_by(2, 1, {(0, 0): 1, (1, 0): 2}), False)
        self.check(ladder_by(2, 2, {(1, 0): 5, (1, 1): 4}), False)
        self.check(ladder_by(2, 2, {(1, 0): 5, (1, 1): 5}), True)
        self.check(ladder_by(2, 2, {(0, 0): THIRTY, (2, 0): THIRTY - 1}), True)
        self.check(ladder_by(3, 2, {(0, 0): THIRTY, (2, 0): THIRTY - 1}), False)
        self.check(ladder_by(20, 10, {(0, 1023): THIRTY}), True)

    def test_sizes(self):
        for spoilt in (-1, 0, 21, THIRTY, -THIRTY) + NO_WHOLES:
            self.check((spoilt, 3, (), 0), False)
        for spoilt in (-1, 0, 11, THIRTY, -THIRTY) + NO_WHOLES:
            self.check((3, spoilt, (), 0), False)

    def test_stretches_of_the_depth_alone(self):
        for deep in range(1, 11):
            self.check((2, deep, (((0, 2 ** deep - 1), 5),), 5), True)
            for stretch in ((0, 2 ** deep), (deep, 1), (deep + 1, 0), (-1, 0), (0, -1), (1, 2 ** (deep - 1))):
                self.check((2, deep, ((stretch, 5),), 5), False)
                self.check((1, deep, ((stretch, 5),), 5), False)
                self.check((2, deep, tuple(sorted([((0, 0), 5), (stretch, 5)])), 10), False)

    def test_stretches_rise_each_once(self):
        rising = ladder_by(2, 1, {(0, 0): 2, (0, 1): 2})
        self.check(rising, True)
        self.check(rising[:2] + (rising[2][::-1], 4), False)
        self.check((2, 1, (((0, 0), 2), ((0, 0), 2)), 4), False)
        self.check((2, 1, (((0, 0), 1), ((1, 0), 1)), 2), True)
        self.check((2, 1, (((1, 0), 1), ((0, 0), 1)), 2), False)

    def test_the_total_is_that_of_all_counts(self):
        for total in (0, 3, 5, -4, THIRTY):
            self.check((2, 1, (((0, 0), 2), ((0, 1), 2)), total), False)
        self.check((2, 1, (((0, 0), 2), ((0, 1), 2)), 4), True)

    def test_counts_from_1_on(self):
        for count in (0, -1, -THIRTY):
            self.check((2, 1, (((0, 0), count),), count), False)
            self.check((2, 1, (((0, 0), 5), ((0, 1), count)), 5 + count), False)

    def test_no_whole_number_in_the_place_of_one(self):
        for spoilt in NO_WHOLES:
            self.check((2, 1, (((0, 0), 2), ((0, 1), 2)), spoilt), False)
            self.check((2, 1, (((0, 0), spoilt), ((0, 1), 2)), 4), False)
            self.check((2, 1, (((0, 0), 2), ((0, spoilt), 2)), 4), False)
            self.check((2, 1, (((spoilt, 0), 2), ((0, 1), 2)), 4), False)
            self.check((2, 1, (((0, 0), 2), ((spoilt, 0), 2)), 4), False)
        for spoilt in (
            (True, 1, (), 0), (1, True, (), 0), (2, 1, (), False), (2, 1, (((0, 0), True),), 1),
            (2, 1, (((0, 0), 1),), True), (2, 1, (((False, 0), 1),), 1), (2, 1, (((0, True), 1),), 1),
            (2, 1, (((0, False), 1),), 1), (1, 1, (((True, 0), 1),), 1), (2, 1, (((0, 0), 1),), 1.0),
        ):
            self.check(spoilt, False)

    def test_no_counts_in_the_place_of_them(self):
        pair = ((0, 0), 2)
        for spoilt in (
            [pair], {(0, 0): 2}, {pair}, pair, (pair, ()), (pair, None), ([(0, 0), 2],), (([0, 0], 2),), (((0, 0),),),
            (((0, 0), 2, 1),), (pair, 5), ((0, 2),), (("a", 2),), ((None, 2),), (((0, 0, 0), 2),), (((0,), 2),),
            "ab", "", [], {}, None, 0, True, (2, (0, 0)), ((2, (0, 0)),), object(),
        ):
            self.check((3, 2, spoilt, 2), False)
            self.check((3, 2, spoilt, 0), False)

    def test_whatever_thing(self):
        ring = []
        ring.append(ring)
        for thing in (
            None, True, False, 0, 1, -1, THIRTY, 1.5, "", "a", "abcd", b"", [], {}, (), set(), object(), list, ring,
            list(GOOD), GOOD[:3], GOOD + (0,), (GOOD,), [GOOD], {1: 1, 2: 2, 3: 3, 4: 4}, "(1, 1, (), 0)",
            (ring, ring, ring, ring), (1, 1, ring, 0), iter(GOOD), range(4), ("merged", [], []), PLAIN,
            (2, (), 0, 0), (2, (("a", 1),), 0, 1),
        ):
            self.check(thing, False)

    def test_what_is_asked_of_stays(self):
        spoilt = [2, 1, [[[0, 0], 2]], 2]
        for thing in (spoilt, tuple(spoilt)):
            before = copy.deepcopy(thing)
            self.check(thing, False)
            self.assertEqual(thing, before)


class KindsTest(unittest.TestCase):
    def test_tuples_all_through(self):
        ladders = (
            empty_ladder(3, 3), ladder_of(3, 3, stream_by((1, 2), (3, 4))),
            grown_ladder(3, 3, ("merged", stream_by((1, 2)), stream_by((3, 4), (7, 1)))),
            merged_ladder(GOOD, ladder_of(3, 3, stream_by((1, 2)))),
        )
        for ladder in ladders:
            self.assertEqual([type(part) for part in ladder], [int, int, tuple, int])
            self.assertIs(type(ladder), tuple)
            for pair in ladder[2]:
                self.assertEqual([type(pair), type(pair[0]), type(pair[1])], [tuple, tuple, int])
