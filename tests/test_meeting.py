import itertools
import random
import unittest

from sumshare.kinds import is_mark
from sumshare.meeting import trees_for, word_at
from sumshare.tallies import bounds_of, grown_tally, is_tally
from sumshare.things import is_stream, times_of
from sumshare.trees import stream_of
from tests.samples import MANY_WORDS, THIRTY, depth_of, drawn_tally, drawn_tree, lists_in, plain_kept, plain_times


class TreesForTest(unittest.TestCase):
    def check_tree(self, tally, tree):
        streams = lists_in(tree)
        self.assertLessEqual(len(streams), 40)
        self.assertLessEqual(sum(len(stream) for stream in streams), 300)
        self.assertLessEqual(depth_of(tree), 20)
        self.check_form(tree)
        for stream in streams:
            self.assertIs(is_stream(stream), True)
            for day, mark, number, many in stream:
                self.assertEqual((day, number), (0, 0))
        self.assertEqual(plain_kept(tally[0], tree)[0], tally)
        self.assertEqual(grown_tally(tally[0], tree), tally)

    def check_form(self, tree):
        if not isinstance(tree, list):
            self.assertIs(type(tree), tuple)
            self.assertEqual((len(tree), tree[0]), (3, "merged"))
            self.check_form(tree[1])
            self.check_form(tree[2])

    def check(self, tally, mark):
        self.assertIs(is_tally(tally), True)
        told = trees_for(tally, mark)
        self.assertIs(type(told), tuple)
        self.assertEqual(len(told), 2)
        for tree, bound in zip(told, bounds_of(tally, mark)):
            with self.subTest(f"{tally} {mark}"):
                self.check_tree(tally, tree)
                self.assertEqual(plain_times(tree).get(mark, 0), bound)
                self.assertEqual(times_of(stream_of(tree), mark), bound)

    def marks_for(self, tally):
        # Besides the counted ones such as a program might take for marks that are let go.
        return [mark for mark, count in tally[1]] + ["a", "b", "z", "aa", "ba", "zz", "abcdefgh", "zzzzzzzz"]

    def test_nothing(self):
        for room in range(1, 21):
            self.check((room, (), 0, 0), "a")

    def test_nothing_let_go(self):
        for mark in ("a", "b", "c", "other"):
            self.check((3, (("a", 3), ("b", THIRTY), ("c", 1)), 0, THIRTY + 4), mark)
            self.check((5, (("b", 3),), 0, 3), mark)

    def test_room_1(self):
        for let in (1, 2, THIRTY):
            for mark in ("a", "b", "q"):
                self.check((1, (), let, 2 * let), mark)
                self.check((1, (("a", 1),), let, 2 * let + 1), mark)
                self.check((1, (("b", THIRTY),), let, 2 * let + THIRTY), mark)

    def test_a_full_tally_of_the_greatest_room(self):
        counts = tuple((mark, 3) for mark in sorted(MANY_WORDS)[:20])
        for let in (1, 7, THIRTY):
            for uncounted in (21 * let, 21 * let + 1, 30 * let, 40 * let - 1, 40 * let):
                tally = (20, counts, let, 60 + uncounted)
                if is_tally(tally):
                    for mark in (counts[0][0], counts[19][0], "other"):
                        self.check(tally, mark)

    def test_every_letter_counted(self):
        for letters in ("abcdefghijklmnopqrst", "ghijklmnopqrstuvwxyz"):
            tally = (20, tuple((letter, 1) for letter in letters), 2, 20 + 70)
            for mark in "abcdefghijklmnopqrstuvwxyz":
                self.check(tally, mark)

    def test_as_many_uncounted_marks_as_can_be(self):
        for room in range(1, 21):
            for counts in ((), (("m", 1),)):
                for mark in ("a", "b", "m", "z", "aa", "ba", "bb", "bz"):
                    self.check((room, counts, 5, len(counts) + 10 * room), mark)

    def test_words_are_marks_and_no_two_alike(self):
        words = [word_at(place) for place in range(20000)]
        self.assertTrue(all(is_mark(word) for word in words))
        self.assertEqual(len(set(words)), len(words))

    def test_every_small_tally(self):
        for room in (1, 2, 3):
            for length in range(room + 1):
                for counts in itertools.product((1, 2), repeat=length):
                    pairs = tuple(zip("abc", counts))
                    for let in range(4):
                        for uncounted in range((room + 1) * let, 2 * room * let + 1):
                            for mark in ("a", "b", "c", "d"):
                                self.check((room, pairs, let, sum(counts) + uncounted), mark)

    def test_drawn_tallies(self):
        source = random.Random(51)
        for room in list(range(1, 21)) * 6:
            tally = drawn_tally(source, room)
            for mark in self.marks_for(tally):
                self.check(tally, mark)

    def test_tallies_of_drawn_trees(self):
        source = random.Random(52)
        for room in list(range(1, 21)) * 4:
            tally = grown_tally(room, drawn_tree(source, room))
            for mark in self.marks_for(tally):
                self.check(tally, mark)

    def test_told_trees_are_the_askers_own(self):
        for tally in ((2, (("a", 3),), 2, 3 + 7), (2, (("a", 3),), 0, 3), (1, (), 0, 0)):
            for mark in ("a", "b"):
                first, second = trees_for(tally, mark), trees_for(tally, mark)
                self.assertEqual(first, second)
                lists = [stream for tree in first + second for stream in lists_in(tree)]
                self.assertEqual(len(set(map(id, lists))), len(lists))
                for tree in first:
                    for stream in lists_in(tree):
                        stream.append((0, "x", 0, 1))
                self.assertEqual(trees_for(tally, mark), second)
