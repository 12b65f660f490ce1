import copy
import itertools
import random
import unittest

from sumshare.errors import NoNumber
from sumshare.fitting import fits, highest, lowest
from sumshare.folds import is_folded, ladder_paper, paper_for
from sumshare.ladders import empty_ladder, grown_ladder
from sumshare.settling import folds_in, settled
from sumshare.trees import stream_of
from tests.fit_samples import can_be_dealt, drawn_fit, near_stream, stream_with
from tests.ladder_samples import (
    drawn_number_tree, drawn_numbers, ladder_by, plain_folded, plain_numbers, stream_by, stretches_of,
    trees_with_one_beyond,
)
from tests.place_samples import check_bounds
from tests.samples import THIRTY, check_refused, leaning_left, leaning_right, some_count


class LadderPaperTest(unittest.TestCase):
    def test_of_a_stream_thing_by_thing(self):
        stream = stream_by((5, 3), (5, 1), (2, 2), (6, 4), (0, 2))
        steps = [
            [], [],
            # The bar is 3: the 2 go up to the top.
            [((0, 2), 2), ((1, 1), 2), ((2, 0), 2)],
            # The bar is 5: 4 and 4 go up to their parents, and are too many there.
            [((0, 5), 4), ((0, 6), 4)],
            # The bar is 6: the new 2 go up to the top.
            [((0, 0), 2), ((1, 0), 2), ((2, 0), 2)],
        ]
        for length in range(6):
            told = [fold for step in steps[:length] for fold in step]
            self.assertEqual(ladder_paper(2, 3, stream[:length]), told)

    def test_first_the_things_own_settling(self):
        own = [[((0, 1), 2), ((1, 0), 2)], [((0, 3), 1), ((1, 1), 1)], [((0, 1), THIRTY), ((1, 0), THIRTY)]]
        stream = stream_by((1, 2), (3, 1), (1, THIRTY))
        for length in range(4):
            told = [fold for step in own[:length] for fold in step]
            self.assertEqual(ladder_paper(1, 2, stream[:length]), told)
        for deep in range(1, 11):
            up = [((height, (2 ** deep - 1) >> height), 7) for height in range(deep)]
            self.assertEqual(ladder_paper(1, deep, stream_by((2 ** deep - 1, 7))), up)
            for room in range(2, 21):
                self.assertEqual(ladder_paper(room, deep, stream_by((2 ** deep - 1, 7))), [])

    def test_a_pair_as_one_fold_or_two(self):
        one, other = stream_by((0, 3), (1, 2)), stream_by((3, 3), (2, 2))
        told = [((0, 0), 3), ((0, 1), 2), ((0, 2), 2), ((0, 3), 3)]
        self.assertEqual((ladder_paper(2, 2, one), ladder_paper(2, 2, other)), ([], []))
        self.assertEqual(ladder_paper(2, 2, ("merged", one, other)), told)
        self.assertEqual(ladder_paper(2, 2, ("merged", other, one)), told)

    def test_of_a_tree_one_and_other_and_both(self):
        one, other = stream_by((0, 1), (3, 2)), stream_by((2, 1), (1, 5))
        papers = [[((0, 0), 1), ((1, 0), 1)], [((0, 2), 1), ((1, 1), 1)], [((0, 3), 2), ((1, 1), 2)]]
        self.assertEqual(ladder_paper(2, 2, one), papers[0])
        self.assertEqual(ladder_paper(2, 2, other), papers[1])
        self.assertEqual(ladder_paper(2, 2, ("merged", one, other)), papers[0] + papers[1] + papers[2])
        self.assertEqual(ladder_paper(2, 2, ("merged", other, one)), papers[1] + papers[0] + papers[2])

    def test_of_nothing(self):
        for room, deep in itertools.product((1, 2, 20), (1, 2, 10)):
            for tree in ([], ("merged", [], []), ("merged", [], ("merged", [], []))):
                self.assertEqual(ladder_paper(room, deep, tree), [])

    def test_deep_ones(self):
        streams = [stream_by((place * 7 % 64, place + 1), (place, 2)) for place in range(40)]
        for room, length in itertools.product((1, 2, 7, 20), (21, 40)):
            for tree in (leaning_left(streams[:length]), leaning_right(streams[:length])):
                self.assertEqual(ladder_paper(room, 6, tree), plain_folded(room, 6, tree)[1])

    def test_drawn_trees_are_shown(self):
        source = random.Random(111)
        with_folds = 0
        for room, deep in itertools.product(range(1, 21), range(1, 11)):
            tree = drawn_number_tree(source, room, deep)
            before = copy.deepcopy(tree)
            paper = ladder_paper(room, deep, tree)
            self.assertEqual(tree, before)
            self.assertEqual(paper, plain_folded(room, deep, tree)[1])
            self.assertIs(is_folded(stream_of(tree), grown_ladder(room, deep, tree), paper), True)
            with_folds = with_folds + (len(paper) > 0)
        self.assertGreater(with_folds, 120)

    def test_three_hundred_things(self):
        source = random.Random(112)
        for room, deep in ((1, 10), (2, 10), (20, 10), (5, 3)):
            stream = stream_by(*[(source.randrange(2 ** deep), some_count(source)) for turn in range(300)])
            paper = ladder_paper(room, deep, stream)
            self.assertEqual(paper, plain_folded(room, deep, stream)[1])
            self.assertIs(is_folded(stream, grown_ladder(room, deep, stream), paper), True)

    def test_a_paper_is_the_askers_own(self):
        for tree in ([], stream_by((1, 2)), ("merged", stream_by((1, 2)), stream_by((0, 2)))):
            told = ladder_paper(1, 1, tree)
            kept = list(told)
            self.assertIs(type(told), list)
            told.append(((0, 0), 1))
            self.assertEqual(ladder_paper(1, 1, tree), kept)

    def test_a_tree_that_changed_has_a_paper_anew(self):
        stream = stream_by((1, 2))
        tree = ("merged", stream, stream_by((0, 1)))
        early = ladder_paper(1, 1, tree)
        stream[0] = (0, "a", 0, 3)
        self.assertEqual(early, [((0, 1), 2), ((0, 0), 1)])
        self.assertEqual(ladder_paper(1, 1, tree), [((0, 0), 3), ((0, 0), 1)])


class NoNumberTest(unittest.TestCase):
    def test_the_first_number_that_is_too_great(self):
        for room, deep in itertools.product((1, 2, 20), range(1, 11)):
            self.assertEqual(len(ladder_paper(room, deep, stream_by((2 ** deep - 1, 2)))), deep if room == 1 else 0)
            for number in (2 ** deep, 2 ** deep + 1, 2 ** (deep + 1), THIRTY):
                check_refused(self, NoNumber, ladder_paper, room, deep, stream_by((number, 1)))

    def test_wherever_it_stands(self):
        source = random.Random(113)
        for turn in range(100):
            room, deep = source.randrange(1, 21), source.randrange(1, 11)
            for tree in trees_with_one_beyond(source, deep):
                before = copy.deepcopy(tree)
                check_refused(self, NoNumber, ladder_paper, room, deep, tree)
                self.assertEqual(tree, before)


STREAM = stream_by((5, 3), (2, 2), (5, 1))
LADDER = ladder_by(2, 3, {(0, 5): 2, (1, 1): 1, (2, 1): 2, (3, 0): 1})
PAPER = [((0, 2), 2), ((0, 5), 2), ((1, 2), 2), ((1, 1), 1), ((2, 0), 1)]


class IsFoldedTest(unittest.TestCase):
    def check(self, stream, ladder, paper, told):
        before = copy.deepcopy((stream, ladder, paper))
        with self.subTest(repr((stream, ladder, paper))[:300]):
            self.assertIs(is_folded(stream, ladder, paper), told)
            self.assertEqual((stream, ladder, paper), before)

    def with_fold(self, place, fold):
        return PAPER[:place] + [fold] + PAPER[place:]

    def test_by_hand(self):
        self.check(STREAM, LADDER, PAPER, True)
        self.check(STREAM[::-1], LADDER, PAPER, True)
        self.check(stream_by((5, 4), (2, 1), (2, 1)), LADDER, PAPER, True)
        self.check([(THIRTY, "zz", 5, 4), (0, "b", 2, 2)], LADDER, PAPER, True)
        for room in range(1, 21):
            self.check(STREAM, (room,) + LADDER[1:], PAPER, True)

    def test_nothing(self):
        for room, deep in itertools.product((1, 20), (1, 10)):
            self.check([], empty_ladder(room, deep), [], True)
            self.check([], empty_ladder(room, deep), [((0, 0), 1)], False)
            self.check([], empty_ladder(room, deep), [((0, 0), 0)], False)
            self.check([], empty_ladder(room, deep), [((0, 0), -1)], False)
            self.check([], ladder_by(room, deep, {(0, 0): 1}), [], False)
            self.check(stream_by((0, 1)), empty_ladder(room, deep), [], False)
            self.check(stream_by((0, 1)), ladder_by(room, deep, {(0, 0): 1}), [], True)

    def test_other_orders(self):
        right = 0
        for paper in itertools.permutations(PAPER):
            # What goes up twice comes to the place between first.
            told = (
                paper.index(((0, 2), 2)) < paper.index(((1, 1), 1)) < paper.index(((2, 0), 1))
                and paper.index(((0, 5), 2)) < paper.index(((1, 2), 2))
            )
            self.check(STREAM, LADDER, list(paper), told)
            right = right + told
        self.assertEqual(right, 10)

    def test_a_fold_in_parts(self):
        self.check(STREAM, LADDER, [((0, 2), 1), ((0, 2), 1)] + PAPER[1:], True)
        self.check(STREAM, LADDER, [((0, 5), 1)] + PAPER[:1] + [((0, 5), 1)] + PAPER[2:], True)
        self.check(STREAM, LADDER, [((0, 2), 1), ((0, 2), 2)] + PAPER[1:], False)
        self.check(STREAM, LADDER, [((0, 2), 1)] + PAPER[1:], False)

    def test_a_fold_that_lacks_or_is_too_many(self):
        for place in range(5):
            self.check(STREAM, LADDER, PAPER[:place] + PAPER[place + 1:], False)
            self.check(STREAM, LADDER, self.with_fold(place, PAPER[place]), False)
            stretch, many = PAPER[place]
            for other in (many + 1, many - 1, many + 100, THIRTY, -many):
                self.check(STREAM, LADDER, PAPER[:place] + [(stretch, other)] + PAPER[place + 1:], False)
        self.check(STREAM, LADDER, [], False)

    def test_what_can_be_done_but_ends_elsewhere(self):
        self.check(STREAM, LADDER, PAPER + [((0, 5), 1)], False)
        self.check(STREAM, LADDER, PAPER + [((2, 1), 2)], False)
        self.check(STREAM, LADDER, PAPER[:4], False)
        self.check(STREAM, ladder_by(2, 3, {(0, 5): 4, (0, 2): 2}), [], True)
        self.check(STREAM, ladder_by(2, 3, {(0, 5): 4, (0, 3): 2}), [], False)

    def test_folds_of_0_and_less(self):
        for place, stretch in itertools.product(range(6), stretches_of(3)):
            for many in (0, -1, -2, -THIRTY):
                self.check(STREAM, LADDER, self.with_fold(place, (stretch, many)), False)
        # What goes down and up again would stand there as before.
        self.check(STREAM, LADDER, PAPER + [((2, 1), -1), ((2, 1), 1)], False)
        self.check(STREAM, LADDER, PAPER + [((0, 5), 1), ((0, 5), -1)], False)

    def test_stretches_that_are_none(self):
        for place in range(6):
            for stretch in (
                (3, 0), (4, 0), (3, 1), (-1, 0), (0, -1), (0, 8), (1, 4), (2, 2), (-1, 10), (-1, 11), (THIRTY, 0),
                (0, THIRTY), (-THIRTY, 5), (5, -THIRTY), (-3, -2),
            ):
                for many in (1, 2, 6, 0, -1, THIRTY):
                    self.check(STREAM, LADDER, self.with_fold(place, (stretch, many)), False)

    def test_nothing_goes_beyond_the_top(self):
        for deep in range(1, 11):
            up = [((height, 0), 1) for height in range(deep)]
            ladder = ladder_by(1, deep, {(deep, 0): 1})
            self.check(stream_by((0, 1)), ladder, up, True)
            self.check(stream_by((0, 1)), ladder, up + [((deep, 0), 1)], False)
            self.check(stream_by((0, 1)), ladder, up[:-1], False)

    def test_another_stream(self):
        for stream in (
            [], STREAM[:2], STREAM + STREAM[:1], stream_by((5, 3), (2, 2), (4, 1)), stream_by((5, 4), (2, 1)),
            stream_by((5, 5), (2, 2)), stream_by((5, 4), (3, 2)), stream_by((5, 4), (2, 2), (0, 1)), stream_by((5, 6)),
            stream_by((5, 4), (2, 2), (8, 1)), stream_by((5, 3), (2, 2), (8, 1)), stream_by((5, 4), (10, 2)),
        ):
            self.check(stream, LADDER, PAPER, False)

    def test_a_number_beyond(self):
        for deep in range(1, 11):
            for number in (2 ** deep, 2 ** deep + 1, 2 ** (deep + 1), THIRTY):
                up = [((height, number >> height), 1) for height in range(deep)]
                for length in range(deep + 1):
                    self.check(stream_by((number, 1)), ladder_by(1, deep, {(deep, 0): 1}), up[:length], False)
                    self.check(stream_by((number, 1)), empty_ladder(1, deep), up[:length], False)
                    self.check(stream_by((number, 1)), ladder_by(1, deep, {(0, 1): 1}), up[:length], False)

    def test_another_ladder(self):
        counts = dict(LADDER[2])
        for stretch in stretches_of(3):
            more = ladder_by(2, 3, {**counts, stretch: counts.get(stretch, 0) + 1})
            self.check(STREAM, more, PAPER, False)
            for other in counts:
                moved = {**counts, stretch: counts.get(stretch, 0) + 1}
                moved[other] = moved[other] - 1
                ladder = ladder_by(2, 3, {one: count for one, count in moved.items() if count > 0})
                self.check(STREAM, ladder, PAPER, ladder == LADDER)
        self.check(STREAM, empty_ladder(2, 3), PAPER, False)
        self.check(STREAM, (2, 4) + LADDER[2:], PAPER, True)
        self.check(STREAM, (2, 4) + LADDER[2:], PAPER + [((3, 0), 1)], False)
        raised = ladder_by(2, 4, {(0, 5): 2, (1, 1): 1, (2, 1): 2, (4, 0): 1})
        self.check(STREAM, raised, PAPER + [((3, 0), 1)], True)

    def test_a_paper_may_be_asked_of_again(self):
        paper = list(PAPER)
        self.check(STREAM, LADDER, paper, True)
        self.check(STREAM, LADDER, paper, True)
        paper.pop()
        self.check(STREAM, LADDER, paper, False)
        self.check(STREAM, LADDER, PAPER, True)


def by_the_words(stream, ladder, paper):
    """Whether the paper shows the ladder, with all things standing somewhere one after another."""
    room, deep, counts, total = ladder
    there = {}
    for day, mark, number, many in stream:
        if number >= 2 ** deep:
            return False
        there[0, number] = there.get((0, number), 0) + many
    for (height, index), many in paper:
        if not 0 <= height < deep or many < 1 or there.get((height, index), 0) < many:
            return False
        there[height, index] -= many
        there[height + 1, index // 2] = there.get((height + 1, index // 2), 0) + many
    left = {stretch: many for stretch, many in there.items() if many != 0}
    return left == dict(counts) and total == sum(thing[3] for thing in stream)


def spoilt(source, ladder, paper):
    """The ladder or the paper with one thing changed."""
    room, deep, counts, total = ladder
    paper = list(paper)
    change = source.randrange(8)
    if change == 0 or not paper:
        counts = dict(counts)
        stretch = source.choice(stretches_of(deep))
        counts[stretch] = counts.get(stretch, 0) + 1
        return ladder_by(room, deep, counts), paper
    place = source.randrange(len(paper))
    (height, index), many = paper[place]
    if change == 1:
        paper.pop(place)
    elif change == 2:
        paper[place] = ((height, index), source.choice((many + 1, many - 1, -many, 0)))
    elif change == 3:
        paper[place] = ((height, index ^ 1), many)
    elif change == 4:
        paper[place] = ((source.choice((height + 1, height - 1)), index), many)
    elif change == 5:
        paper.insert(place, (source.choice(stretches_of(deep)), source.choice((1, many))))
    elif change == 6:
        other = source.randrange(len(paper))
        paper[place], paper[other] = paper[other], paper[place]
    else:
        part = source.randint(1, many) if many > 0 else 1
        paper[place:place + 1] = [((height, index), one) for one in (part, many - part) if one != 0]
    return (room, deep, counts, total), paper


class WhoeverWroteItTest(unittest.TestCase):
    """Whatever paper is let by, the stream fits the ladder, and the bounds hold for it."""

    def drawn(self, source):
        """A stream, a ladder of it, and a paper that nobody came to by settling."""
        room, deep = source.randrange(1, 21), source.randrange(1, 11)
        numbers = drawn_numbers(source, deep)
        pairs = [(source.choice(numbers), some_count(source)) for turn in range(source.randrange(9))]
        stream = stream_with(source, pairs)
        standing = {(0, number): many for number, many in plain_numbers(stream)}
        paper = []
        for turn in range(source.choice((0, 1, 5, 20, 60))):
            stretches = [stretch for stretch in sorted(standing) if stretch[0] < deep]
            if stretches:
                height, index = source.choice(stretches)
                many = source.choice((1, standing[height, index], source.randint(1, standing[height, index])))
                paper.append(((height, index), many))
                standing[height, index] -= many
                parent = (height + 1, index // 2)
                standing[parent] = standing.get(parent, 0) + many
                standing = {stretch: count for stretch, count in standing.items() if count > 0}
        return stream, ladder_by(room, deep, standing), paper

    def check_told(self, source, stream, ladder, paper):
        before = copy.deepcopy((stream, ladder, paper))
        told = is_folded(stream, ladder, paper)
        self.assertIs(told, by_the_words(stream, ladder, paper))
        if told:
            self.assertIs(fits(stream, ladder), True)
            self.assertIs(can_be_dealt(stream, ladder), True)
            check_bounds(self, source, ladder, plain_numbers(stream))
        self.assertEqual((stream, ladder, paper), before)
        return told

    def test_drawn_papers(self):
        source = random.Random(114)
        let_by, refused = 0, 0
        for turn in range(500):
            stream, ladder, paper = self.drawn(source)
            self.assertIs(self.check_told(source, stream, ladder, paper), True)
            for again in range(5):
                other_ladder, other_paper = spoilt(source, ladder, paper)
                told = self.check_told(source, stream, other_ladder, other_paper)
                let_by, refused = let_by + told, refused + (not told)
            told = self.check_told(source, near_stream(source, ladder, stream), ladder, paper)
            let_by, refused = let_by + told, refused + (not told)
        self.assertGreater(let_by, 100)
        self.assertGreater(refused, 500)

    def test_papers_of_trees_spoilt(self):
        source = random.Random(115)
        refused = 0
        for room, deep in itertools.product(range(1, 21), (1, 2, 3, 6, 10)):
            tree = drawn_number_tree(source, room, deep)
            stream, ladder, paper = stream_of(tree), grown_ladder(room, deep, tree), ladder_paper(room, deep, tree)
            for again in range(3):
                refused = refused + (not self.check_told(source, stream, *spoilt(source, ladder, paper)))
            refused = refused + (not self.check_told(source, near_stream(source, ladder, stream), ladder, paper))
        self.assertGreater(refused, 150)

    def test_papers_of_other_trees(self):
        source = random.Random(116)
        for room, deep in itertools.product((1, 2, 3, 7, 20), (1, 2, 5, 10)):
            trees = [drawn_number_tree(source, room, deep) for turn in range(2)]
            trees.append(stream_of(trees[0]))
            for one, other in itertools.product(trees, repeat=2):
                stream, paper = stream_of(one), ladder_paper(room, deep, other)
                self.check_told(source, stream, grown_ladder(room, deep, other), paper)

    def test_folds_of_settling_go_on(self):
        source = random.Random(117)
        for turn in range(200):
            stream, ladder, paper = self.drawn(source)
            self.assertIs(self.check_told(source, stream, settled(ladder), paper + folds_in(ladder)), True)

    def test_every_small_paper(self):
        stretches = [(-1, 0), (0, 0), (0, 1), (0, 2), (1, 0), (1, 1)]
        folds = list(itertools.product(stretches, (0, 1, 2)))
        papers = [list(paper) for size in range(4) for paper in itertools.product(folds, repeat=size)]
        stream = stream_by((0, 1), (1, 2))
        ladders = [
            ladder_by(2, 1, counts)
            for counts in ({(0, 0): 1, (0, 1): 2}, {(0, 1): 1, (1, 0): 2}, {(1, 0): 3}, {(0, 1): 2, (1, 0): 1}, {})
        ]
        shown = 0
        for paper, ladder in itertools.product(papers, ladders):
            told = is_folded(stream, ladder, paper)
            if told is not by_the_words(stream, ladder, paper):
                self.fail(repr((stream, ladder, paper)))
            shown = shown + told
        # Of one ladder none; of two of one fold; of {(0, 1): 1, (1, 0): 2} in 2 orders; of all 3 at the top
        # in 2 orders, and with the 2 in parts in 3.
        self.assertEqual(shown, 1 + 1 + 2 + (2 + 3))


class PaperForTest(unittest.TestCase):
    def check(self, stream, ladder, told):
        """Told whether there is one."""
        before = copy.deepcopy((stream, ladder))
        paper = paper_for(stream, ladder)
        with self.subTest(repr((stream, ladder))[:300]):
            self.assertIs(paper is not None, told)
            self.assertIs(fits(stream, ladder), told)
            if told:
                self.assertIs(type(paper), list)
                for fold in paper:
                    self.assertEqual([type(fold), type(fold[0]), type(fold[1])], [tuple, tuple, int])
                self.assertIs(is_folded(stream, ladder, paper), True)
                self.assertIs(by_the_words(stream, ladder, paper), True)
            self.assertEqual((stream, ladder), before)

    def test_nothing_to_fold(self):
        self.assertEqual(paper_for([], empty_ladder(3, 4)), [])
        self.assertEqual(paper_for(stream_by((5, 3), (2, 1)), ladder_by(2, 3, {(0, 5): 3, (0, 2): 1})), [])

    def test_by_hand(self):
        self.check(STREAM, LADDER, True)
        self.check(stream_by((5, 6)), LADDER, False)
        self.check(stream_by((5, 4), (2, 1)), LADDER, False)
        self.check(stream_by((5, 4), (2, 2), (0, 1)), LADDER, False)
        self.check(stream_by((5, 2), (2, 2), (6, 2)), LADDER, True)
        self.check(stream_by((5, 2), (2, 2), (7, 1), (8, 1)), LADDER, False)
        self.check(stream_by((5, 2), (3, 1), (6, 3)), LADDER, True)
        self.check([], LADDER, False)
        self.check(STREAM, empty_ladder(2, 3), False)

    def test_all_to_the_top(self):
        for deep in range(1, 11):
            ladder = ladder_by(1, deep, {(deep, 0): THIRTY + 1})
            self.check(stream_by((0, 1), (2 ** deep - 1, THIRTY)), ladder, True)
            self.check(stream_by((0, 1), (2 ** deep, THIRTY)), ladder, False)
            self.check(stream_by((0, 1), (THIRTY, THIRTY)), ladder, False)
            self.check(stream_by((0, 2), (2 ** deep - 1, THIRTY)), ladder, False)

    def test_drawn_ladders(self):
        source = random.Random(118)
        told_papers, told_none = 0, 0
        for turn in range(600):
            ladder, stream = drawn_fit(source, 10)
            self.check(stream, ladder, True)
            for again in range(3):
                stream = near_stream(source, ladder, stream)
                told = can_be_dealt(stream, ladder)
                self.check(stream, ladder, told)
                told_papers, told_none = told_papers + told, told_none + (not told)
            self.check(lowest(ladder), ladder, True)
            self.check(highest(ladder), ladder, True)
        self.assertGreater(told_papers, 200)
        self.assertGreater(told_none, 200)

    def test_trees(self):
        source = random.Random(119)
        for room, deep in itertools.product((1, 2, 3, 7, 20), range(1, 11)):
            one, other = drawn_number_tree(source, room, deep), drawn_number_tree(source, room, deep)
            ladder = grown_ladder(room, deep, one)
            self.check(stream_of(one), ladder, True)
            self.check(stream_of(other), ladder, can_be_dealt(stream_of(other), ladder))

    def test_a_paper_is_the_askers_own(self):
        for stream, ladder in ((STREAM, LADDER), ([], empty_ladder(1, 1))):
            told = paper_for(stream, ladder)
            kept = list(told)
            told.append(((0, 0), 1))
            self.assertEqual(paper_for(stream, ladder), kept)
            self.assertIs(is_folded(stream, ladder, told), False)
