import copy
import random
import unittest

from sumshare.trees import grown, steps_in, stream_of, streams_in
from tests.samples import PLAIN, depth_of, drawn_tree, leaning_left, leaning_right, some_stream, some_tree


def short_streams(source, how_many):
    return [some_stream(source, source.randrange(8)) for turn in range(how_many)]


class TreesTest(unittest.TestCase):
    def check(self, tree, streams):
        before = copy.deepcopy(tree)
        things = [thing for stream in streams for thing in stream]
        self.assertEqual(streams_in(tree), streams)
        self.assertEqual(stream_of(tree), things)
        self.check_own(tree, streams, things)
        self.assertEqual(tree, before)

    def check_own(self, tree, streams, things):
        told = streams_in(tree)
        self.assertIs(type(told), list)
        self.assertEqual(len(set(map(id, told))), len(told))
        for stream in told:
            self.assertIs(type(stream), list)
            stream.append((0, "x", 0, 1))
        told.clear()
        self.assertEqual(streams_in(tree), streams)
        told = stream_of(tree)
        self.assertIs(type(told), list)
        told.append((0, "x", 0, 1))
        self.assertEqual(stream_of(tree), things)
        self.assertEqual(streams_in(tree), streams)

    def test_a_stream_alone(self):
        self.check([], [[]])
        self.check(list(PLAIN), [PLAIN])

    def test_two_streams_in_order(self):
        one, other = [(0, "a", 0, 1), (1, "b", 0, 1)], [(0, "c", 0, 1)]
        self.check(("merged", one, other), [one[:], other[:]])
        self.check(("merged", other, one), [other[:], one[:]])

    def test_streams_without_things_are_told_too(self):
        self.check(("merged", [], []), [[], []])
        self.check(("merged", ("merged", [], list(PLAIN)), []), [[], PLAIN, []])

    def test_every_shape_of_four(self):
        one, two, three, four = [[(place, "a", 0, 1)] for place in range(4)]
        for tree in (
            ("merged", ("merged", ("merged", one, two), three), four),
            ("merged", ("merged", one, ("merged", two, three)), four),
            ("merged", ("merged", one, two), ("merged", three, four)),
            ("merged", one, ("merged", ("merged", two, three), four)),
            ("merged", one, ("merged", two, ("merged", three, four))),
        ):
            self.check(tree, [[(place, "a", 0, 1)] for place in range(4)])

    def test_leaning_to_either_side_up_to_twenty_deep(self):
        source = random.Random(11)
        for deep in range(1, 21):
            streams = short_streams(source, deep + 1)
            for tree in (leaning_left(streams), leaning_right(streams)):
                self.assertEqual(depth_of(tree), deep)
                self.check(tree, copy.deepcopy(streams))

    def test_many_shapes_up_to_forty_streams(self):
        source = random.Random(12)
        for how_many in list(range(1, 41)) + [40] * 10:
            streams = short_streams(source, how_many)
            tree = some_tree(source, streams)
            self.check(tree, copy.deepcopy(streams))

    def test_one_tree_at_both_places(self):
        stream = [(2, "b", 1, 1)]
        self.check(("merged", stream, stream), [[(2, "b", 1, 1)]] * 2)
        twice = ("merged", [(1, "a", 0, 1)], stream)
        self.check(("merged", twice, twice), [[(1, "a", 0, 1)], [(2, "b", 1, 1)]] * 2)
        tree = stream
        for deep in range(5):
            tree = ("merged", tree, tree)
            self.check(tree, [[(2, "b", 1, 1)]] * len(streams_in(tree)))
        self.assertEqual(len(streams_in(tree)), 32)

    def test_what_was_told_stays_when_the_tree_changes(self):
        first, second = [(0, "a", 0, 1)], [(1, "b", 0, 1)]
        tree = ("merged", first, second)
        streams, stream = streams_in(tree), stream_of(tree)
        first.append((9, "z", 9, 9))
        second.clear()
        self.assertEqual(streams, [[(0, "a", 0, 1)], [(1, "b", 0, 1)]])
        self.assertEqual(stream, [(0, "a", 0, 1), (1, "b", 0, 1)])
        self.assertEqual(streams_in(tree), [[(0, "a", 0, 1), (9, "z", 9, 9)], []])
        self.assertEqual(stream_of(tree), [(0, "a", 0, 1), (9, "z", 9, 9)])

    def test_somewhat_deeper(self):
        streams = [[(place, "a", 0, 1)] for place in range(40)]
        self.check(leaning_left(streams), copy.deepcopy(streams))
        self.check(leaning_right(streams), copy.deepcopy(streams))


class GrownTest(unittest.TestCase):
    def test_steps_have_a_merging_behind_what_it_merges(self):
        one, two, three = [(0, "a", 0, 1)], [], [(1, "b", 0, 1)]
        self.assertEqual(steps_in(one), [one])
        self.assertEqual(steps_in(("merged", one, two)), [one, two, None])
        self.assertEqual(steps_in(("merged", ("merged", one, two), three)), [one, two, None, three, None])
        self.assertEqual(steps_in(("merged", one, ("merged", two, three))), [one, two, three, None, None])

    def test_grown_builds_the_tree_again(self):
        source = random.Random(13)
        for turn in range(100):
            tree = drawn_tree(source, source.randrange(1, 21))
            before = copy.deepcopy(tree)
            again = grown(tree, list, lambda one, other: ("merged", one, other))
            self.assertEqual(again, before)
            self.assertEqual(tree, before)

    def test_each_stream_and_each_merging_is_asked_once(self):
        tree = leaning_left([[(place, "a", 0, 1)] for place in range(40)])
        asked = []
        grown(tree, lambda stream: asked.append("stream"), lambda one, other: asked.append("merging"))
        self.assertEqual((asked.count("stream"), asked.count("merging")), (40, 39))
