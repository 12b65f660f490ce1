import copy
import itertools
import random
import unittest

from sumshare.errors import NoRoom
from sumshare.tallies import bounds_of, count_in, empty_tally, grown_tally, is_tally, merged_tally, tally_of
from tests.samples import (
    MANY_WORDS, NO_MARKS, NO_WHOLES, PLAIN, THIRTY, check_bounds, check_refused, drawn_tally, drawn_tree,
    leaning_left, leaning_right, plain_kept, plain_merged, turned,
)


def stream_by(*pairs):
    return [(place, mark, 7, many) for place, (mark, many) in enumerate(pairs)]


class MergedTest(unittest.TestCase):
    def check(self, one, other, told):
        self.assertEqual(merged_tally(one, other), told)
        self.assertEqual(merged_tally(other, one), told)

    def test_nothing(self):
        for room in range(1, 21):
            nothing = empty_tally(room)
            self.assertEqual(nothing, (room, (), 0, 0))
            self.check(nothing, nothing, (room, (), 0, 0))

    def test_counts_are_added_where_there_is_room(self):
        one, other = (3, (("a", 2), ("c", 1)), 0, 3), (3, (("b", 4), ("c", 5)), 0, 9)
        self.check(one, other, (3, (("a", 2), ("b", 4), ("c", 6)), 0, 12))

    def test_one_mark_too_many(self):
        one, other = (2, (("a", 5), ("b", 3)), 0, 8), (2, (("c", 2),), 0, 2)
        self.check(one, other, (2, (("a", 3), ("b", 1)), 2, 10))

    def test_alike_ones_at_the_cut_all_go(self):
        one, other = (2, (("a", 5), ("b", 3)), 0, 8), (2, (("c", 3),), 0, 3)
        self.check(one, other, (2, (("a", 2),), 3, 11))
        one, other = (2, (("a", 3), ("b", 3)), 0, 6), (2, (("c", 3), ("d", 3)), 0, 6)
        self.check(one, other, (2, (), 3, 12))

    def test_twice_the_room(self):
        one, other = (2, (("a", 9), ("b", 4)), 0, 13), (2, (("c", 6), ("d", 1)), 0, 7)
        self.check(one, other, (2, (("a", 5), ("c", 2)), 4, 20))

    def test_room_1(self):
        self.check((1, (("a", 5),), 0, 5), (1, (("b", 3),), 0, 3), (1, (("a", 2),), 3, 8))
        self.check((1, (("a", 5),), 0, 5), (1, (("b", 5),), 0, 5), (1, (), 5, 10))
        self.check((1, (("a", 5),), 0, 5), (1, (("a", 5),), 0, 5), (1, (("a", 10),), 0, 10))

    def test_lets_and_totals_are_added(self):
        self.check((2, (("a", 1),), 4, 13), (2, (), 3, 10), (2, (("a", 1),), 7, 23))
        self.check((1, (("a", 2),), 4, 10), (1, (("b", 1),), 3, 7), (1, (("a", 1),), 8, 17))

    def test_great_counts(self):
        one, other = (1, (("a", THIRTY),), 0, THIRTY), (1, (("b", THIRTY - 1),), THIRTY, 3 * THIRTY - 1)
        self.check(one, other, (1, (("a", 1),), 2 * THIRTY - 1, 4 * THIRTY - 1))

    def test_counts_rise_by_their_marks_whatever_comes_first(self):
        marks = ("b", "ab", "a", "ba", "aa")
        for order in itertools.permutations(marks):
            tally = tally_of(5, stream_by(*[(mark, 1) for mark in order]))
            self.assertEqual(tally, (5, (("a", 1), ("aa", 1), ("ab", 1), ("b", 1), ("ba", 1)), 0, 5))

    def test_unlike_rooms_are_refused(self):
        for one_room, other_room in itertools.permutations(range(1, 21), 2):
            one, other = (one_room, (("a", 1),), 0, 1), (other_room, (), 0, 0)
            check_refused(self, NoRoom, merged_tally, one, other)
            check_refused(self, NoRoom, merged_tally, empty_tally(one_room), empty_tally(other_room))
        check_refused(self, NoRoom, merged_tally, (2, (("a", 9),), 1, 12), (3, (("a", 9),), 1, 13))

    def test_drawn_ones_by_rounds(self):
        source = random.Random(31)
        for turn in range(1500):
            room = source.randrange(1, 21)
            one, other = drawn_tally(source, room), drawn_tally(source, room)
            told = plain_merged(one, other)[0]
            self.check(one, other, told)
            self.assertIs(is_tally(told), True)
            self.check(one, empty_tally(room), one)


class TreeTallyTest(unittest.TestCase):
    def test_a_stream_thing_by_thing(self):
        stream = stream_by(("a", 3), ("b", 2), ("c", 1), ("d", 4), ("b", 1))
        tallies = [tally_of(2, stream[:length]) for length in range(6)]
        self.assertEqual(tallies, [
            (2, (), 0, 0),
            (2, (("a", 3),), 0, 3),
            (2, (("a", 3), ("b", 2)), 0, 5),
            (2, (("a", 2), ("b", 1)), 1, 6),
            (2, (("a", 1), ("d", 3)), 2, 10),
            (2, (("d", 2),), 3, 11),
        ])
        self.assertEqual([grown_tally(2, stream[:length]) for length in range(6)], tallies)

    def test_order_matters_in_a_stream(self):
        self.assertEqual(tally_of(1, stream_by(("a", 1), ("b", 1), ("a", 1))), (1, (("a", 1),), 1, 3))
        self.assertEqual(tally_of(1, stream_by(("a", 1), ("a", 1), ("b", 1))), (1, (("a", 1),), 1, 3))
        self.assertEqual(tally_of(1, stream_by(("a", 1), ("b", 1), ("c", 1))), (1, (("c", 1),), 1, 3))
        self.assertEqual(tally_of(1, stream_by(("c", 1), ("b", 1), ("a", 1))), (1, (("a", 1),), 1, 3))

    def test_days_and_numbers_do_not_matter(self):
        stream = [(THIRTY, "a", THIRTY, 2), (0, "b", 3, 1), (9, "a", 0, 1)]
        self.assertEqual(tally_of(2, stream), (2, (("a", 3), ("b", 1)), 0, 4))
        self.assertEqual(tally_of(3, PLAIN), (3, (("a", 4), ("abcdefgh", 40), ("b", 4)), 0, 48))
        self.assertEqual(tally_of(2, PLAIN), (2, (("abcdefgh", 36),), 4, 48))

    def test_a_tree_is_merged_not_read_on(self):
        left, right = stream_by(("a", 2), ("b", 2)), stream_by(("c", 1), ("d", 1))
        self.assertEqual(grown_tally(2, ("merged", left, right)), (2, (("a", 1), ("b", 1)), 1, 6))
        self.assertEqual(tally_of(2, left + right), (2, (), 2, 6))

    def test_the_shape_matters(self):
        one, two, three = stream_by(("a", 2)), stream_by(("b", 1)), stream_by(("c", 2))
        self.assertEqual(grown_tally(1, ("merged", ("merged", one, two), three)), (1, (("c", 1),), 2, 5))
        self.assertEqual(grown_tally(1, ("merged", one, ("merged", two, three))), (1, (("a", 1),), 2, 5))

    def test_trees_of_nothing(self):
        for room in (1, 20):
            for tree in ([], ("merged", [], []), ("merged", ("merged", [], []), [])):
                self.assertEqual(grown_tally(room, tree), empty_tally(room))

    def test_deep_ones(self):
        streams = [stream_by((mark, place + 1)) for place, mark in enumerate(MANY_WORDS[:40])]
        for room in (1, 2, 7, 20):
            for length in (21, 40):
                for tree in (leaning_left(streams[:length]), leaning_right(streams[:length])):
                    self.assertEqual(grown_tally(room, tree), plain_kept(room, tree)[0])


class DrawnTreesTest(unittest.TestCase):
    """For every tree and every mark the bounds hold, and what is let go keeps between its two edges."""

    def check_bounds(self, tally, tree):
        check_bounds(self, tally, tree)
        room, counts, let, total = tally
        self.assertLessEqual(total - sum(count for mark, count in counts), 2 * room * let)

    def test_drawn_trees(self):
        source = random.Random(32)
        some_let_go = 0
        for room in list(range(1, 21)) * 30:
            tree = drawn_tree(source, room)
            before = copy.deepcopy(tree)
            tally = grown_tally(room, tree)
            self.assertEqual(tree, before)
            self.assertEqual(tally, plain_kept(room, tree)[0])
            self.assertIs(is_tally(tally), True)
            self.check_bounds(tally, tree)
            self.assertEqual(grown_tally(room, turned(tree)), tally)
            for aside in (("merged", tree, []), ("merged", [], tree)):
                self.assertEqual(grown_tally(room, aside), tally)
            some_let_go = some_let_go + (tally[2] > 0)
        self.assertGreater(some_let_go, 200)

    def test_drawn_streams(self):
        source = random.Random(33)
        for room in list(range(1, 21)) * 4:
            words = source.sample(MANY_WORDS, source.randrange(1, 40))
            stream = [(0, source.choice(words), 0, source.choice((1, 2, THIRTY))) for turn in range(150)]
            before = list(stream)
            tally = tally_of(room, stream)
            self.assertEqual(stream, before)
            self.assertEqual(tally, grown_tally(room, stream))
            self.assertEqual(tally, plain_kept(room, stream)[0])
            self.check_bounds(tally, stream)

    def test_every_small_tree(self):
        things = [(0, mark, 0, many) for mark in "abc" for many in (1, 2)]
        streams = [[]] + [[thing] for thing in things]
        streams = streams + [list(pair) for pair in itertools.product(things, repeat=2)]
        for one, other in itertools.product(streams, repeat=2):
            for room in (1, 2, 3):
                tree = ("merged", one, other)
                tally = grown_tally(room, tree)
                self.assertEqual(tally, plain_kept(room, tree)[0])
                self.check_bounds(tally, tree)

    def test_a_tree_that_changed_is_tallied_anew(self):
        stream = stream_by(("a", 2))
        tree = ("merged", stream, stream_by(("b", 1)))
        early = grown_tally(1, tree)
        stream.append((0, "b", 0, 5))
        self.assertEqual(early, (1, (("a", 1),), 1, 3))
        self.assertEqual(grown_tally(1, tree), (1, (("b", 4),), 2, 8))
        self.assertEqual(tally_of(1, stream), (1, (("b", 3),), 2, 7))


class AskedTest(unittest.TestCase):
    def test_counts_and_bounds(self):
        tally = (4, (("a", 3), ("ab", 1), ("b", THIRTY)), 5, 100)
        asked = ("a", "aa", "ab", "b", "c", "abcdefgh")
        self.assertEqual([count_in(tally, mark) for mark in asked], [3, 0, 1, THIRTY, 0, 0])
        told = [(3, 8), (0, 5), (1, 6), (THIRTY, THIRTY + 5), (0, 5), (0, 5)]
        self.assertEqual([bounds_of(tally, mark) for mark in asked], told)

    def test_of_tuples_that_are_so_made_but_of_no_tree(self):
        for tally in ((1, (("a", 3),), 7, 0), (1, (("a", 3),), 0, 2), (20, (("a", 3),), 9, THIRTY)):
            self.assertIs(is_tally(tally), False)
            self.assertEqual((count_in(tally, "a"), count_in(tally, "b")), (3, 0))
            self.assertEqual((bounds_of(tally, "a"), bounds_of(tally, "b")), ((3, 3 + tally[2]), (0, tally[2])))

    def test_of_nothing(self):
        self.assertEqual((count_in(empty_tally(3), "a"), bounds_of(empty_tally(3), "a")), (0, (0, 0)))


GOOD = (3, (("a", 2), ("c", 5)), 2, 7 + 9)


class IsTallyTest(unittest.TestCase):
    def check(self, thing, told):
        with self.subTest(repr(thing)[:200]):
            self.assertIs(is_tally(thing), told)

    def test_nothing(self):
        for room in range(1, 21):
            self.check((room, (), 0, 0), True)
            self.check((room, (), 0, 1), False)
            self.check((room, (), 1, 0), False)

    def test_both_edges_of_what_is_let_go(self):
        source = random.Random(34)
        for turn in range(400):
            room, counts, let, total = drawn_tally(source, source.randrange(1, 21))
            counted = sum(count for mark, count in counts)
            least, most = counted + (room + 1) * let, counted + 2 * room * let
            for total, told in ((least - 1, False), (least, True), (most, True), (most + 1, False)):
                self.check((room, counts, let, total), told)
            self.check((room, counts, let, (least + most) // 2), True)

    def test_by_hand(self):
        self.check(GOOD, True)
        self.check((1, (), 3, 6), True)
        self.check((1, (), 3, 5), False)
        self.check((1, (), 3, 7), False)
        self.check((2, (("a", 1),), 3, 10), True)
        self.check((2, (("a", 1),), 3, 13), True)
        self.check((2, (("a", 1),), 3, 9), False)
        self.check((2, (("a", 1),), 3, 14), False)
        self.check((2, (("a", THIRTY), ("b", THIRTY)), THIRTY, 5 * THIRTY), True)

    def test_rooms(self):
        for room in (-1, 0, 21, 22, THIRTY, -THIRTY):
            self.check((room, (), 0, 0), False)
        full = tuple((mark, 1) for mark in sorted(MANY_WORDS))
        for room in range(1, 21):
            self.check((room, full[:room], 0, room), True)
            self.check((room, full[:room + 1], 0, room + 1), False)
            self.check((room, full[:room + 1], 1, 2 * room + 2), False)

    def test_marks_rise_each_once(self):
        for marks in (("b", "a"), ("a", "a"), ("a", "c", "b"), ("aa", "a"), ("a", "b", "b")):
            self.check((3, tuple((mark, 1) for mark in marks), 0, len(marks)), False)
        self.check((3, (("a", 1), ("aa", 1), ("b", 1)), 0, 3), True)

    def test_counts_from_1_on(self):
        for count in (0, -1, -THIRTY):
            self.check((3, (("a", count),), 0, count), False)
            self.check((3, (("a", 5), ("b", count)), 0, 5 + count), False)
        self.check((3, (), -1, -4), False)
        self.check((1, (("a", 1),), -1, -1), False)
        self.check((1, (("a", 2),), -1, 0), False)
        self.check((1, (("a", 9),), -3, 3), False)
        self.check((3, (("a", 2),), 0, -2), False)

    def test_no_whole_number_in_the_place_of_one(self):
        room, counts, let, total = GOOD
        for spoilt in NO_WHOLES:
            self.check((spoilt, counts, let, total), False)
            self.check((room, counts, spoilt, total), False)
            self.check((room, counts, let, spoilt), False)
            self.check((room, (("a", spoilt), ("c", 5)), let, total), False)
            self.check((room, (("a", 2), ("c", spoilt)), let, total), False)
        for truth in (True, False):
            self.check((1, (("a", 1),), truth, 1), False)
            self.check((1, (), 0, truth), False)
            self.check((True, (), 0, 0), False)
            self.check((1, (("a", True),), 0, 1), False)

    def test_no_mark_in_the_place_of_one(self):
        for spoilt in NO_MARKS:
            self.check((3, ((spoilt, 2),), 0, 2), False)
            self.check((3, (("a", 2), (spoilt, 2)), 0, 4), False)
            self.check((3, ((spoilt, 2), ("a", 2)), 0, 4), False)

    def test_no_counts_in_the_place_of_them(self):
        pair = ("a", 2)
        for spoilt in (
            [pair], {"a": 2}, {pair}, pair, (pair, ()), (pair, None), (["b", 2], pair), (("a",),), (("a", 2, 1),),
            (("a", 2), 5), ("a", "b"), "ab", "", [], {}, None, 0, True, (2, "a"), ((2, "a"),), object(),
        ):
            self.check((3, spoilt, 0, 2), False)
            self.check((3, spoilt, 0, 0), False)

    def test_whatever_thing(self):
        ring = []
        ring.append(ring)
        for thing in (
            None, True, False, 0, 1, -1, THIRTY, 1.5, "", "a", "abcd", b"", [], {}, (), set(), object(), list, ring,
            list(GOOD), GOOD[:3], GOOD + (0,), (GOOD,), [GOOD], {1: 1, 2: 2, 3: 3, 4: 4}, "(1, (), 0, 0)",
            (ring, ring, ring, ring), (1, ring, 0, 0), iter(GOOD), range(4), ("merged", [], []), PLAIN,
        ):
            self.check(thing, False)

    def test_what_is_asked_of_stays(self):
        spoilt = [3, [["a", 2]], 0, 2]
        for thing in (spoilt, tuple(spoilt)):
            before = copy.deepcopy(thing)
            self.check(thing, False)
            self.assertEqual(thing, before)
