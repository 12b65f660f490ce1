import copy
import itertools
import random
import unittest

from sumshare.fitting import fits, highest, lowest
from sumshare.ladders import empty_ladder, grown_ladder
from sumshare.places import at_most_in, place_in, sum_in
from sumshare.things import at_most, is_stream, sum_of
from sumshare.trees import stream_of
from tests.fit_samples import can_be_dealt, drawn_fit, near_stream
from tests.ladder_samples import (
    drawn_ladder, drawn_number_tree, ladder_by, plain_numbers, plain_settled, stream_by, stretches_of,
)
from tests.place_samples import check_bounds, ends_of, numbers_to_ask, place_by, places_to_ask
from tests.samples import THIRTY

THREE = ladder_by(2, 2, {(0, 1): 2, (1, 1): 3, (2, 0): 1})
MIXED = ladder_by(2, 3, {(0, 0): 1, (0, 6): 2, (1, 1): 3, (2, 1): 4, (3, 0): 5})


class ByHandTest(unittest.TestCase):
    def check(self, stream, ladder, told):
        before = copy.deepcopy((stream, ladder))
        with self.subTest(repr((stream, ladder))[:300]):
            self.assertIs(fits(stream, ladder), told)
            self.assertIs(fits(stream[::-1], ladder), told)
            self.assertEqual((stream, ladder), before)

    def test_just_as_many_as_are_counted(self):
        for numbers in (
            ((1, 2), (2, 3), (0, 1)), ((1, 3), (3, 3)), ((1, 2), (2, 1), (3, 3)), ((1, 2), (2, 4)),
            ((1, 1), (2, 1), (1, 1), (3, 1), (2, 1), (0, 1)), ((3, 3), (3, 1), (1, 2)),
        ):
            self.check(stream_by(*numbers), THREE, True)

    def test_a_stretch_that_lacks_some(self):
        for numbers in (
            ((1, 1), (0, 1), (2, 4)), ((0, 2), (2, 4)), ((1, 4), (3, 2)), ((1, 6),), ((3, 6),), ((0, 6),),
            ((0, 1), (1, 3), (2, 2)), ((0, 2), (1, 1), (2, 3)), ((1, 1), (3, 5)),
        ):
            self.check(stream_by(*numbers), THREE, False)

    def test_fewer_or_more(self):
        for numbers in (
            (), ((1, 2), (2, 3)), ((1, 2), (2, 2), (0, 1)), ((1, 2), (2, 3), (0, 2)), ((1, 2), (2, 4), (0, 1)),
            ((1, 3), (2, 3), (0, 1)), ((1, 2), (2, 3), (0, THIRTY)), ((1, 4), (2, 6), (0, 2)),
        ):
            self.check(stream_by(*numbers), THREE, False)

    def test_a_number_beyond(self):
        for number in (4, 5, 6, 7, 8, 16, THIRTY):
            self.check(stream_by((1, 2), (2, 3), (number, 1)), THREE, False)
            self.check(stream_by((1, 2), (2, 3), (0, 1), (number, 1)), THREE, False)
            self.check(stream_by((1, 2), (number, 3), (0, 1)), THREE, False)
            self.check(stream_by((number, 1)), empty_ladder(3, 2), False)
        for deep in range(1, 11):
            top = ladder_by(1, deep, {(deep, 0): 3})
            self.check(stream_by((2 ** deep - 1, 3)), top, True)
            self.check(stream_by((2 ** deep, 3)), top, False)
            self.check(stream_by((0, 2), (2 ** deep, 1)), top, False)

    def test_nothing(self):
        for room, deep in itertools.product((1, 2, 20), (1, 2, 10)):
            self.check([], empty_ladder(room, deep), True)
            self.check(stream_by((0, 1)), empty_ladder(room, deep), False)
            self.check([], ladder_by(room, deep, {(0, 0): 1}), False)
            self.check([], ladder_by(room, deep, {(deep, 0): 1}), False)

    def test_days_and_marks_do_not_matter(self):
        self.check([(THIRTY, "zzzzzzzz", 1, 2), (3, "b", 2, 3), (3, "b", 0, 1)], THREE, True)
        self.check([(THIRTY, "zzzzzzzz", 0, 2), (3, "b", 2, 3), (3, "b", 0, 1)], THREE, False)

    def test_great_counts(self):
        ladder = ladder_by(20, 10, {(0, 1023): THIRTY, (9, 1): 1, (10, 0): THIRTY})
        self.check(stream_by((1023, THIRTY), (512, 1), (511, THIRTY)), ladder, True)
        self.check(stream_by((1023, THIRTY + 1), (0, THIRTY)), ladder, True)
        self.check(stream_by((1023, 2 * THIRTY + 1)), ladder, True)
        self.check(stream_by((1023, THIRTY), (511, THIRTY + 1)), ladder, False)
        self.check(stream_by((1023, THIRTY - 1), (512, 2), (511, THIRTY)), ladder, False)

    def test_the_room_does_not_matter(self):
        for room in range(1, 21):
            self.check(stream_by((1, 3), (3, 3)), (room,) + THREE[1:], True)
            self.check(stream_by((1, 4), (3, 2)), (room,) + THREE[1:], False)


def dealings(ladder):
    """The stretches of the ladder, each as often as it counts."""
    return [stretch for stretch, count in ladder[2] for turn in range(count)]


def one_by_one(stream, ladder):
    """Whether they can be dealt, by trying all orders of the stretches."""
    numbers = [number for day, mark, number, many in stream for turn in range(many)]
    stretches = dealings(ladder)
    return len(numbers) == len(stretches) and any(
        all(ends_of(stretch)[0] <= number <= ends_of(stretch)[1] for number, stretch in zip(numbers, order))
        for order in itertools.permutations(stretches)
    )


def enough_in_each(stream, ladder):
    """Whether in each stretch there are as many things as the counts of all stretches within it come to."""
    room, deep, counts, total = ladder
    if sum(thing[3] for thing in stream) != total or any(thing[2] >= 2 ** deep for thing in stream):
        return False
    for first, last in [ends_of(stretch) for stretch in stretches_of(deep)]:
        there = sum(many for day, mark, number, many in stream if first <= number <= last)
        within = [count for stretch, count in counts if first <= ends_of(stretch)[0] and ends_of(stretch)[1] <= last]
        if there < sum(within):
            return False
    return True


class DealtTest(unittest.TestCase):
    def test_every_small_one(self):
        ladders = []
        for size in range(5):
            for chosen in itertools.combinations_with_replacement(stretches_of(2), size):
                ladders.append(ladder_by(2, 2, {stretch: chosen.count(stretch) for stretch in chosen}))
        streams = []
        for size in range(4):
            for numbers in itertools.combinations_with_replacement(range(5), size):
                streams.append(stream_by(*[(number, 1) for number in numbers]))
        streams.extend([stream_by((0, 2), (3, 1)), stream_by((2, 3)), stream_by((1, 1), (2, 2)), stream_by((4, 2))])
        for ladder, stream in itertools.product(ladders, streams):
            told = fits(stream, ladder)
            self.assertIs(told, one_by_one(stream, ladder))
            self.assertIs(told, can_be_dealt(stream, ladder))

    def test_drawn_ladders(self):
        source = random.Random(101)
        fitting, others = 0, 0
        for turn in range(1200):
            ladder, stream = drawn_fit(source, 10)
            self.assertIs(fits(stream, ladder), True)
            for again in range(4):
                stream = near_stream(source, ladder, stream)
                before = list(stream)
                told = fits(stream, ladder)
                self.assertIs(told, can_be_dealt(stream, ladder))
                self.assertEqual(stream, before)
                if told:
                    check_bounds(self, source, ladder, plain_numbers(stream))
                fitting, others = fitting + told, others + (not told)
        self.assertGreater(fitting, 500)
        self.assertGreater(others, 500)

    def test_enough_in_each_stretch(self):
        source = random.Random(102)
        fitting, others = 0, 0
        for turn in range(600):
            ladder, stream = drawn_fit(source, 5)
            for again in range(3):
                told = fits(stream, ladder)
                self.assertIs(told, enough_in_each(stream, ladder))
                fitting, others = fitting + told, others + (not told)
                stream = near_stream(source, ladder, stream)
        self.assertGreater(fitting, 300)
        self.assertGreater(others, 300)

    def test_streams_of_trees(self):
        source = random.Random(103)
        unlike = 0
        for room, deep in itertools.product(range(1, 21), range(1, 11)):
            one, other = drawn_number_tree(source, room, deep), drawn_number_tree(source, room, deep)
            ladder = grown_ladder(room, deep, one)
            self.assertIs(fits(stream_of(one), ladder), True)
            self.assertIs(fits(stream_of(other), ladder), can_be_dealt(stream_of(other), ladder))
            near = near_stream(source, ladder, stream_of(one))
            self.assertIs(fits(near, ladder), can_be_dealt(near, ladder))
            unlike = unlike + (not fits(near, ladder))
        self.assertGreater(unlike, 50)


class LowestHighestTest(unittest.TestCase):
    def test_by_hand(self):
        self.assertEqual(lowest(MIXED), [
            (0, "a", 0, 1), (0, "a", 6, 2), (0, "a", 2, 3), (0, "a", 4, 4), (0, "a", 0, 5),
        ])
        self.assertEqual(highest(MIXED), [
            (0, "a", 0, 1), (0, "a", 6, 2), (0, "a", 3, 3), (0, "a", 7, 4), (0, "a", 7, 5),
        ])

    def test_of_nothing(self):
        for room, deep in ((1, 1), (20, 10), (3, 4)):
            self.assertEqual(lowest(empty_ladder(room, deep)), [])
            self.assertEqual(highest(empty_ladder(room, deep)), [])

    def test_numbers_by_themselves(self):
        ladder = ladder_by(20, 10, {(0, 0): 2, (0, 7): 1, (0, 1023): THIRTY})
        self.assertEqual(lowest(ladder), [(0, "a", 0, 2), (0, "a", 7, 1), (0, "a", 1023, THIRTY)])
        self.assertEqual(highest(ladder), lowest(ladder))

    def test_all_at_the_top(self):
        for deep in range(1, 11):
            ladder = ladder_by(1, deep, {(deep, 0): THIRTY})
            self.assertEqual(lowest(ladder), [(0, "a", 0, THIRTY)])
            self.assertEqual(highest(ladder), [(0, "a", 2 ** deep - 1, THIRTY)])

    def check_met(self, source, ladder):
        before = copy.deepcopy(ladder)
        low, high = lowest(ladder), highest(ladder)
        for stream, end in ((low, 0), (high, 1)):
            self.assertIs(is_stream(stream), True)
            told = [(0, "a", ends_of(stretch)[end], count) for stretch, count in ladder[2]]
            self.assertEqual(stream, told)
            self.assertIs(fits(stream, ladder), True)
            self.assertIs(can_be_dealt(stream, ladder), True)
        for x in numbers_to_ask(source, ladder):
            self.assertEqual(at_most_in(ladder, x), (at_most(high, x), at_most(low, x)))
        self.assertEqual(sum_in(ladder), (sum_of(low), sum_of(high)))
        if ladder[3] > 0:
            lows, highs = plain_numbers(low), plain_numbers(high)
            for place in places_to_ask(source, ladder, lows + highs):
                self.assertEqual(place_in(ladder, place), (place_by(lows, place), place_by(highs, place)))
        self.assertEqual(ladder, before)

    def test_drawn_ladders_are_met(self):
        source = random.Random(104)
        for turn in range(400):
            ladder = drawn_ladder(source, source.randrange(1, 21), source.randrange(1, 11))
            self.check_met(source, ladder)
            self.check_met(source, plain_settled(ladder)[0])

    def test_ladders_of_trees_are_met(self):
        source = random.Random(105)
        for room, deep in itertools.product(range(1, 21), (1, 2, 5, 10)):
            self.check_met(source, grown_ladder(room, deep, drawn_number_tree(source, room, deep)))

    def test_lists_are_the_askers_own(self):
        for call, ladder in itertools.product((lowest, highest), (MIXED, empty_ladder(1, 1))):
            told = call(ladder)
            kept = list(told)
            self.assertIs(type(told), list)
            told.append((0, "b", 0, 1))
            told[0] = (0, "c", 0, 1)
            self.assertEqual(call(ladder), kept)
            self.assertIs(fits(call(ladder), ladder), True)
            self.assertIs(fits(told, ladder), False)
