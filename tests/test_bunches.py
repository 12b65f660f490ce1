import copy
import itertools
import random
import unittest

from sumshare.bunches import bunches_of, is_shown, tally_paper
from sumshare.errors import NoRoom
from sumshare.tallies import empty_tally, grown_tally, tally_of
from sumshare.trees import stream_of
from tests.samples import (
    MANY_WORDS, NO_MARKS, NO_WHOLES, PLAIN, THIRTY, check_bounds, check_refused, drawn_tally, drawn_tree,
    leaning_left, plain_kept, plain_merged, plain_times, some_count,
)


class BunchesOfTest(unittest.TestCase):
    def check(self, one, other, told):
        self.assertEqual(bunches_of(one, other), told)
        self.assertEqual(bunches_of(other, one), told)

    def test_none_where_the_cut_is_0(self):
        self.check(empty_tally(3), empty_tally(3), [])
        self.check((2, (("a", 3), ("b", 1)), 5, 19), (2, (("b", 1),), 0, 1), [])
        self.check((1, (("a", THIRTY),), 0, THIRTY), empty_tally(1), [])

    def test_one_value(self):
        self.check((2, (("a", 5), ("b", 3)), 0, 8), (2, (("c", 2),), 0, 2), [(("a", "b", "c"), 2)])
        self.check((1, (("b", 4),), 0, 4), (1, (("a", 4),), 0, 4), [(("a", "b"), 4)])

    def test_more_values_rise(self):
        one, other = (3, (("a", 9), ("c", 1), ("e", 4)), 0, 14), (3, (("b", 6), ("d", 1), ("f", 6)), 0, 13)
        self.check(one, other, [(("a", "b", "c", "d", "e", "f"), 1), (("a", "b", "e", "f"), 3)])
        one, other = (3, (("a", 9), ("c", 1), ("e", 4)), 0, 14), (3, (("b", 3), ("d", 2), ("f", 6)), 0, 11)
        told = [(("a", "b", "c", "d", "e", "f"), 1), (("a", "b", "d", "e", "f"), 1), (("a", "b", "e", "f"), 1)]
        self.check(one, other, told)

    def test_great_counts(self):
        one, other = (2, (("a", THIRTY), ("b", 1)), 0, THIRTY + 1), (2, (("c", THIRTY), ("d", THIRTY - 1)), 0, 0)
        self.check(one, other, [(("a", "b", "c", "d"), 1), (("a", "c", "d"), THIRTY - 2)])

    def test_unlike_rooms_are_refused(self):
        for one, other in itertools.permutations(range(1, 21), 2):
            check_refused(self, NoRoom, bunches_of, empty_tally(one), empty_tally(other))
            check_refused(self, NoRoom, bunches_of, (one, (("a", 1),), 0, 1), (other, (("b", 1),), 0, 1))

    def test_drawn_ones_by_rounds(self):
        source = random.Random(61)
        for turn in range(1500):
            room = source.randrange(1, 21)
            one, other = drawn_tally(source, room), drawn_tally(source, room)
            self.check(one, other, plain_merged(one, other)[1])

    def test_lists_are_the_askers_own(self):
        for one, other in (((1, (("b", 4),), 0, 4), (1, (("a", 4),), 0, 4)), (empty_tally(2), empty_tally(2))):
            told = bunches_of(one, other)
            kept = list(told)
            self.assertIs(type(told), list)
            told.append(((), 0))
            self.assertEqual(bunches_of(one, other), kept)


class TallyPaperTest(unittest.TestCase):
    def test_of_a_stream_thing_by_thing(self):
        stream = [(0, "a", 0, 3), (0, "b", 0, 2), (0, "c", 0, 1), (0, "d", 0, 4), (0, "b", 0, 1)]
        papers = [tally_paper(2, stream[:length]) for length in range(6)]
        told = [(("a", "b", "c"), 1), (("a", "b", "d"), 1), (("a", "b", "d"), 1)]
        self.assertEqual(papers, [[], [], [], told[:1], told[:2], told])

    def test_of_a_tree_one_and_other_and_both(self):
        one, other = [(0, "a", 0, 5), (0, "b", 0, 2)], [(0, "d", 0, 1), (0, "c", 0, 5)]
        papers = [[(("a", "b"), 2)], [(("c", "d"), 1)], [(("a", "c"), 3)]]
        self.assertEqual(tally_paper(1, one), papers[0])
        self.assertEqual(tally_paper(1, other), papers[1])
        self.assertEqual(tally_paper(1, ("merged", one, other)), papers[0] + papers[1] + papers[2])
        self.assertEqual(tally_paper(1, ("merged", other, one)), papers[1] + papers[0] + papers[2])

    def test_of_nothing(self):
        for room in (1, 20):
            for tree in ([], ("merged", [], []), ("merged", [], ("merged", [], []))):
                self.assertEqual(tally_paper(room, tree), [])

    def test_deep_ones(self):
        tree = leaning_left([[(0, mark, 0, place + 1)] for place, mark in enumerate(MANY_WORDS[:40])])
        for room in (1, 5, 20):
            self.assertEqual(tally_paper(room, tree), plain_kept(room, tree)[1])

    def test_drawn_trees_are_shown(self):
        source = random.Random(62)
        with_bunches = 0
        for room in list(range(1, 21)) * 20:
            tree = drawn_tree(source, room)
            before = copy.deepcopy(tree)
            paper = tally_paper(room, tree)
            self.assertEqual(tree, before)
            self.assertEqual(paper, plain_kept(room, tree)[1])
            self.assertIs(is_shown(stream_of(tree), grown_tally(room, tree), paper), True)
            with_bunches = with_bunches + (len(paper) > 0)
        self.assertGreater(with_bunches, 100)

    def test_a_paper_is_the_askers_own(self):
        for tree in ([], [(0, "a", 0, 3), (0, "b", 0, 2)], ("merged", [(0, "a", 0, 3)], [(0, "b", 0, 2)])):
            told = tally_paper(1, tree)
            kept = list(told)
            self.assertIs(type(told), list)
            told.append(((), 0))
            self.assertEqual(tally_paper(1, tree), kept)

    def test_a_tree_that_changed_has_a_paper_anew(self):
        stream = [(0, "a", 0, 3)]
        tree = ("merged", stream, [(0, "b", 0, 2)])
        early = tally_paper(1, tree)
        stream[0] = (0, "a", 0, 1)
        self.assertEqual(early, [(("a", "b"), 2)])
        self.assertEqual(tally_paper(1, tree), [(("a", "b"), 1)])


STREAM = [(0, "a", 1, 2), (3, "b", 0, 4), (1, "a", 2, 3), (2, "c", 0, 1), (2, "d", 5, 2)]
TALLY = (2, (("a", 2), ("b", 1)), 3, 12)
PAPER = [(("a", "b", "d"), 2), (("a", "b", "c"), 1)]


class IsShownTest(unittest.TestCase):
    def check(self, stream, tally, paper, told):
        before = copy.copy(paper)
        stays = list(stream)
        with self.subTest(repr((stream, tally, paper))[:300]):
            self.assertIs(is_shown(stream, tally, paper), told)
            self.assertEqual(stream, stays)
            if isinstance(paper, list):
                self.assertEqual(paper, before)

    def test_by_hand(self):
        self.check(STREAM, TALLY, PAPER, True)
        self.check(list(reversed(STREAM)), TALLY, PAPER[::-1], True)
        self.check([], (1, (), 0, 0), [], True)
        self.check(PLAIN, (3, (("a", 4), ("abcdefgh", 40), ("b", 4)), 0, 48), [], True)

    def test_bunches_alike(self):
        stream = [(0, "a", 0, 6), (0, "b", 0, 4)]
        self.check(stream, (1, (("a", 2),), 4, 10), [(("a", "b"), 2), (("a", "b"), 2)], True)
        self.check(stream, (1, (("a", 2),), 4, 10), [(("a", "b"), 2)], False)
        self.check(stream, (1, (("a", 2),), 4, 10), [(("a", "b"), 1)] * 4, True)
        self.check(stream, (1, (("a", 2),), 4, 10), [(("a", "b"), 1)] * 5, False)

    def test_a_tally_that_no_tree_has(self):
        # More let go than merging ever does: only the form of the tally is asked for.
        stream = [(0, mark, 0, 1) for mark in "abcde"]
        self.check(stream, (1, (), 1, 5), [(("a", "b", "c", "d", "e"), 1)], True)

    def test_each_bunch_has_more_marks_than_room(self):
        stream = [(0, "a", 0, 1), (0, "b", 0, 1), (0, "c", 0, 1)]
        paper = [(("a", "b", "c"), 1)]
        for room, told in ((1, True), (2, True), (3, False), (4, False), (20, False)):
            self.check(stream, (room, (), 1, 3), paper, told)
        self.check([(0, "a", 0, 1)], (1, (), 1, 1), [(("a",), 1)], False)
        self.check([], (1, (), 1, 0), [((), 1)], False)

    def test_manys_are_let(self):
        for let in range(6):
            self.check(STREAM, TALLY[:2] + (let, 12), PAPER, let == 3)

    def test_total_is_how_many_things(self):
        for total in range(15):
            self.check(STREAM, TALLY[:3] + (total,), PAPER, total == 12)

    def test_each_mark_as_often_as_told(self):
        for place in range(5):
            for other in range(5):
                if place != other:
                    stream = list(STREAM)
                    for here, change in ((place, 1), (other, -1)):
                        day, mark, number, many = stream[here]
                        stream[here] = (day, mark, number, many + change)
                    stream = [thing for thing in stream if thing[3] > 0]
                    self.check(stream, TALLY, PAPER, {place, other} == {0, 2})

    def test_a_mark_of_the_stream_that_nothing_tells(self):
        stream = [(0, "a", 0, 2), (0, "b", 0, 1)]
        self.check(stream, (3, (("a", 3),), 0, 3), [], False)
        self.check(stream, (3, (("a", 2),), 0, 3), [], False)
        self.check(stream, (3, (("a", 2), ("b", 1)), 0, 3), [], True)

    def test_a_mark_that_is_told_but_not_there(self):
        self.check([(0, "a", 0, 2)], (3, (("a", 2), ("b", 1)), 0, 2), [], False)
        self.check([(0, "a", 0, 2)], (1, (), 1, 2), [(("a", "b"), 1)], False)

    def test_spoilt_bunches(self):
        for bunch in (
            (("b", "a", "d"), 2), (("a", "b", "d", "d"), 2), (("a", "a", "b", "d"), 2), (["a", "b", "d"], 2),
            [("a", "b", "d"), 2], (("a", "b", "d"),), (("a", "b", "d"), 2, 0), (2, ("a", "b", "d")), "abd", (), None, 5,
            ({"a": 1, "b": 1, "d": 1}, 2), ("abd", 2), (("a", "b", "d"), 0), (("a", "b", "d"), -2), (None, 2), {},
        ):
            self.check(STREAM, TALLY, [bunch, PAPER[1]], False)
            self.check(STREAM, TALLY, [PAPER[1], bunch], False)
            self.check(STREAM, TALLY, PAPER + [bunch], False)

    def test_manys_from_1_on(self):
        self.check(STREAM, TALLY, PAPER + [(("a", "b", "c"), 0)], False)
        self.check(STREAM, TALLY, PAPER + [(("a", "b", "c"), 1), (("a", "b", "c"), -1)], False)
        self.check([], (1, (), 0, 0), [(("a", "b"), 0)], False)
        self.check([], (1, (), 0, 0), [(("a", "b"), 1), (("a", "b"), -1)], False)

    def test_no_many_in_the_place_of_one(self):
        for spoilt in NO_WHOLES:
            self.check(STREAM, TALLY, [PAPER[0], (("a", "b", "c"), spoilt)], False)
            self.check(STREAM, TALLY, PAPER + [(("a", "b", "c"), spoilt)], False)

    def test_no_mark_in_the_place_of_one(self):
        for spoilt in NO_MARKS:
            self.check(STREAM, TALLY, [PAPER[0], ("a", "b", spoilt)], False)
            self.check(STREAM, TALLY, [PAPER[0], (("a", "b", spoilt), 1)], False)
            self.check(STREAM, TALLY, [PAPER[0], ((spoilt, "a", "b", "c"), 1)], False)

    def test_no_paper(self):
        for spoilt in (tuple(PAPER), PAPER[0], {}, None, "", 0, True, (), ((),), {1: PAPER[0]}, object()):
            self.check(STREAM, TALLY, spoilt, False)
            self.check([], (1, (), 0, 0), spoilt, False)

    def test_a_tally_that_is_not_so_made(self):
        room, counts, let, total = TALLY
        for spoilt in (
            list(TALLY), TALLY[:3], TALLY + (0,), None, 5, "", (), {}, object(),
            (0, counts, let, total), (-1, counts, let, total), (True, counts, let, total), ("2", counts, let, total),
            (room, list(counts), let, total), (room, dict(counts), let, total), (room, counts[::-1], let, total),
            (room, (("a", 2), ["b", 1]), let, total), (room, counts, float(let), total), (room, counts, let, 12.0),
            (room, (("a", 1), ("a", 1), ("b", 1)), let, total), (room, None, let, total),
        ):
            self.check(STREAM, spoilt, PAPER, False)

    def test_a_tally_that_is_not_so_made_but_adds_up(self):
        stream = [(0, "a", 0, 2), (0, "b", 0, 1)]
        counts = (("a", 2), ("b", 1))
        for tally, told in (
            ((2, counts, 0, 3), True), ((1, counts, 0, 3), False), ((20, counts, 0, 3), True),
            ((21, counts, 0, 3), False), ((THIRTY, counts, 0, 3), False), ((2, counts[::-1], 0, 3), False),
            ((2, counts, False, 3), False), ((3, counts + (("c", 0),), 0, 3), False), ((0, counts, 0, 3), False),
        ):
            self.check(stream, tally, [], told)
        self.check([(0, "a", 0, 1)], (2, (("a", True),), 0, 1), [], False)
        self.check([(0, "a", 0, 1)], (True, (("a", 1),), 0, 1), [], False)
        self.check([(0, "a", 0, 1)], (2, (("a", 1),), 0, True), [], False)
        many = tuple((mark, 1) for mark in sorted(MANY_WORDS)[:21])
        full = [(0, mark, 0, 1) for mark, count in many]
        self.check(full, (20, many, 0, 21), [], False)
        self.check(full, (21, many, 0, 21), [], False)


class WhoeverWroteItTest(unittest.TestCase):
    """Whatever paper is let by, the bounds hold for the stream."""

    def drawn(self, source):
        """A stream, a tally of it and a paper that nobody came to by merging."""
        room = source.randrange(1, 21)
        words = sorted(MANY_WORDS)
        counts = tuple((mark, some_count(source)) for mark in sorted(source.sample(words, source.randrange(room + 1))))
        paper = []
        for turn in range(source.randrange(6)):
            marks = source.sample(words, source.randrange(room + 1, len(words)))
            paper.append((tuple(sorted(marks)), some_count(source)))
        times = dict(counts)
        for marks, many in paper:
            for mark in marks:
                times[mark] = times.get(mark, 0) + many
        stream = []
        for mark in source.sample(sorted(times), len(times)):
            part = source.randrange(times[mark])
            stream.extend((9, mark, 1, many) for many in (part, times[mark] - part) if many > 0)
        return stream, (room, counts, sum(many for marks, many in paper), sum(times.values())), paper

    def spoilt(self, source, tally, paper):
        room, counts, let, total = tally
        paper = list(paper)
        change = source.randrange(6)
        if change == 0:
            let = let + source.choice((-1, 1))
        elif change == 1:
            total = total + source.choice((-1, 1))
        elif change == 2 and counts:
            counts = counts[1:]
        elif change == 3 and paper:
            marks, many = paper.pop()
            paper.append((marks[1:], many))
        elif change == 4 and paper:
            paper.append((paper[0][0], 1))
        else:
            room = source.randrange(1, 21)
        return (room, counts, let, total), paper

    def by_the_words(self, stream, tally, paper):
        """Whether the paper shows the tally, by the words of the promise one by one."""
        room, counts, let, total = tally
        times = plain_times(stream)
        marks = set(times) | {mark for mark, count in counts} | {mark for bunch in paper for mark in bunch[0]}
        return (
            let >= 0 and len(counts) <= room
            and all(len(bunch[0]) > room for bunch in paper)
            and sum(many for bunch, many in paper) == let
            and total == sum(thing[3] for thing in stream)
            and all(
                times.get(mark, 0) == dict(counts).get(mark, 0) + sum(many for bunch, many in paper if mark in bunch)
                for mark in marks
            )
        )

    def test_drawn_papers(self):
        source = random.Random(71)
        let_by, refused = 0, 0
        for turn in range(600):
            stream, tally, paper = self.drawn(source)
            self.assertIs(is_shown(stream, tally, paper), True)
            check_bounds(self, tally, stream)
            for again in range(4):
                tally, paper = self.spoilt(source, tally, paper)
                told = is_shown(stream, tally, paper)
                self.assertIs(told, self.by_the_words(stream, tally, paper))
                if told:
                    check_bounds(self, tally, stream)
                let_by, refused = let_by + told, refused + (not told)
        self.assertGreater(let_by, 100)
        self.assertGreater(refused, 100)

    def test_papers_of_other_trees(self):
        source = random.Random(72)
        for room in list(range(1, 21)) * 5:
            trees = [drawn_tree(source, room) for turn in range(2)]
            trees.append(stream_of(trees[0]))
            for one, other in itertools.product(trees, repeat=2):
                stream, tally, paper = stream_of(one), grown_tally(room, other), tally_paper(room, other)
                told = is_shown(stream, tally, paper)
                self.assertIs(told, self.by_the_words(stream, tally, paper))
                if told:
                    check_bounds(self, tally, stream)

    def test_every_small_paper(self):
        some_marks = [marks for size in (1, 2, 3) for marks in itertools.combinations("abc", size)]
        bunches = list(itertools.product(some_marks, (1, 2)))
        papers = [[]] + [[bunch] for bunch in bunches] + [list(pair) for pair in itertools.product(bunches, repeat=2)]
        streams = [[], [(0, "a", 0, 2), (0, "b", 0, 1)], [(0, "a", 0, 3), (0, "b", 0, 2), (0, "c", 0, 1)]]
        tallies = [
            (room, counts, let, total)
            for room in (1, 2) for let in range(4) for total in (0, 3, 6)
            for counts in ((), (("a", 1),), (("b", 1),), (("a", 2),), (("a", 1), ("b", 1)))
        ]
        shown = 0
        for stream, tally, paper in itertools.product(streams, tallies, papers):
            told = is_shown(stream, tally, paper)
            self.assertIs(told, self.by_the_words(stream, tally, paper))
            if told:
                check_bounds(self, tally, stream)
                shown = shown + 1
        self.assertGreater(shown, 5)

    def test_a_stream_read_thing_by_thing(self):
        self.assertIs(is_shown(PLAIN, tally_of(1, PLAIN), tally_paper(1, PLAIN)), True)
