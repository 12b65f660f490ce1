import copy
import unittest

from sumshare.things import at_most, is_stream, of_days, sum_of, things_in, times_of, unlike_in
from tests.samples import NO_MARKS, NO_WHOLES, PLAIN, THIRTY, WORDS, some_streams

NO_STREAMS = (
    ((0, "a", 0, 1),), (), (0, "a", 0, 1), "", "a", "abcd", 0, 1, -1, THIRTY, None, True, False, 1.5, {},
    {(0, "a", 0, 1): 1}, {0: (0, "a", 0, 1)}, {(0, "a", 0, 1)}, frozenset(), b"", range(0), iter([]), object(), list,
    ("merged", [], []),
)


class IsStreamTest(unittest.TestCase):
    def check_thing(self, thing, told):
        # Alone and among good ones at each place, so that no place goes unseen.
        good = [(1, "ok", 2, 3), (4, "fine", 0, 1)]
        for stream in ([thing], [thing] + good, good + [thing], good[:1] + [thing] + good[1:]):
            with self.subTest(repr(stream)[:200]):
                self.assertIs(is_stream(stream), told)

    def test_streams(self):
        self.assertIs(is_stream([]), True)
        for stream in some_streams():
            self.assertIs(is_stream(stream), True)

    def test_edges_of_things(self):
        for thing in (
            (0, "a", 0, 1),
            (0, "z", 0, 1),
            (0, "abcdefgh", 0, 1),
            (0, "zzzzzzzz", 0, 1),
            (0, "mm", 5, 1),
            (5, "mm", 0, 1),
            (THIRTY, "a", 0, 1),
            (0, "a", THIRTY, 1),
            (0, "a", 0, THIRTY),
            (THIRTY, "abcdefgh", THIRTY, THIRTY),
        ):
            self.check_thing(thing, True)

    def test_every_letter(self):
        for letter in "abcdefghijklmnopqrstuvwxyz":
            self.check_thing((0, letter, 0, 1), True)
            self.check_thing((0, letter.upper(), 0, 1), False)

    def test_every_other_sign(self):
        for sign in map(chr, range(0x250)):
            if not "a" <= sign <= "z":
                self.check_thing((0, "a" + sign, 0, 1), False)

    def test_numbers_beyond(self):
        for thing in (
            (-1, "a", 0, 1),
            (0, "a", -1, 1),
            (0, "a", 0, 0),
            (0, "a", 0, -1),
            (-THIRTY, "a", 0, 1),
            (0, "a", -THIRTY, 1),
            (0, "a", 0, -THIRTY),
        ):
            self.check_thing(thing, False)

    def test_no_number_in_the_place_of_one(self):
        for spoilt in NO_WHOLES:
            self.check_thing((spoilt, "a", 2, 1), False)
            self.check_thing((2, "a", spoilt, 1), False)
            self.check_thing((2, "a", 2, spoilt), False)

    def test_no_mark_in_the_place_of_one(self):
        for spoilt in NO_MARKS:
            self.check_thing((1, spoilt, 2, 3), False)

    def test_no_thing_in_the_place_of_one(self):
        for spoilt in (
            [1, "a", 2, 3], [], (), (1,), (1, "a", 2), (1, "a", 2, 3, 4), ((1, "a", 2, 3),), [(1, "a", 2, 3)],
            "a", "abcd", 1, None, True, {}, {1: 1, "a": 1, 2: 2, 3: 3}, ("a", 1, 2, 3), object(),
        ):
            self.check_thing(spoilt, False)

    def test_no_list(self):
        for thing in NO_STREAMS:
            with self.subTest(repr(thing)):
                self.assertIs(is_stream(thing), False)

    def test_a_list_that_holds_itself(self):
        ring = []
        ring.append(ring)
        self.assertIs(is_stream(ring), False)

    def test_the_stream_stays(self):
        for stream in some_streams() + [[(0, "a", 0, 0)], [[1, "a", 2, 3]]]:
            before = copy.deepcopy(stream)
            is_stream(stream)
            self.assertEqual(stream, before)


def walked(stream, wanted):
    """How many things are as wanted, by a walk with nothing of the program's own."""
    total = 0
    for thing in stream:
        if wanted(thing):
            total = total + thing[3]
    return total


class CountsTest(unittest.TestCase):
    def test_by_hand(self):
        self.assertEqual(things_in(PLAIN), 48)
        self.assertEqual([times_of(PLAIN, mark) for mark in ("a", "b", "abcdefgh", "c", "abc")], [4, 4, 40, 0, 0])
        self.assertEqual([at_most(PLAIN, x) for x in (-1, 0, 4, 5, 8, 9, 10)], [0, 1, 1, 8, 8, 48, 48])
        self.assertEqual(sum_of(PLAIN), 10 + 0 + 10 + 360 + 15)
        self.assertEqual(unlike_in(PLAIN), 3)

    def test_of_nothing(self):
        self.assertEqual((things_in([]), times_of([], "a"), at_most([], 5), sum_of([]), unlike_in([])), (0,) * 5)

    def test_great_manys(self):
        stream = [(0, "a", THIRTY, THIRTY), (1, "b", 1, THIRTY), (2, "a", 0, 1)]
        self.assertEqual(things_in(stream), 2 * THIRTY + 1)
        self.assertEqual(times_of(stream, "a"), THIRTY + 1)
        self.assertEqual(at_most(stream, THIRTY), 2 * THIRTY + 1)
        self.assertEqual(at_most(stream, THIRTY - 1), THIRTY + 1)
        self.assertEqual(sum_of(stream), THIRTY * THIRTY + THIRTY)
        self.assertEqual(unlike_in(stream), 2)

    def test_many_at_once_is_the_same_as_one_by_one(self):
        single = [(day, mark, number, 1) for day, mark, number, many in PLAIN for turn in range(many)]
        self.assertEqual(len(single), 48)
        self.assertEqual(things_in(PLAIN), things_in(single))
        self.assertEqual(sum_of(PLAIN), sum_of(single))
        for mark in WORDS:
            self.assertEqual(times_of(PLAIN, mark), times_of(single, mark))
        for x in range(-2, 12):
            self.assertEqual(at_most(PLAIN, x), at_most(single, x))

    def test_by_a_plain_walk(self):
        for stream in some_streams():
            with self.subTest(len(stream)):
                self.assertEqual(things_in(stream), walked(stream, lambda thing: True))
                for mark in WORDS + ("q", "abc", "bab"):
                    self.assertEqual(times_of(stream, mark), walked(stream, lambda thing: thing[1] == mark))
                for x in list(range(-3, 14)) + [-THIRTY, THIRTY - 1, THIRTY, THIRTY + 1]:
                    self.assertEqual(at_most(stream, x), walked(stream, lambda thing: thing[2] <= x))
                whole = 0
                seen = {}
                for thing in stream:
                    whole = whole + thing[2] * thing[3]
                    seen[thing[1]] = True
                self.assertEqual(sum_of(stream), whole)
                self.assertEqual(unlike_in(stream), len(seen))

    def test_marks_that_begin_alike_are_unlike(self):
        stream = [(0, "a", 0, 1), (0, "aa", 0, 2), (0, "aaa", 0, 4), (0, "a", 9, 8)]
        self.assertEqual([times_of(stream, mark) for mark in ("a", "aa", "aaa", "aaaa")], [9, 2, 4, 0])
        self.assertEqual(unlike_in(stream), 3)

    def test_the_stream_stays(self):
        for stream in some_streams():
            before = list(stream)
            for turn in range(2):
                things_in(stream), times_of(stream, "a"), at_most(stream, 5), sum_of(stream), unlike_in(stream)
            self.assertEqual(stream, before)

    def test_a_stream_that_grew_is_counted_anew(self):
        stream = list(PLAIN)
        before = (things_in(stream), times_of(stream, "a"), at_most(stream, 5), sum_of(stream), unlike_in(stream))
        stream.append((9, "new", 1, 10))
        after = (things_in(stream), times_of(stream, "a"), at_most(stream, 5), sum_of(stream), unlike_in(stream))
        self.assertEqual([late - early for early, late in zip(before, after)], [10, 0, 10, 10, 1])


class OfDaysTest(unittest.TestCase):
    def test_both_days_belong_to_it(self):
        stream = [(4, "d", 0, 1), (2, "b", 0, 1), (5, "e", 0, 1), (1, "a", 0, 1), (3, "c", 0, 1)]
        self.assertEqual([thing[1] for thing in of_days(stream, 2, 4)], ["d", "b", "c"])
        self.assertEqual(of_days(stream, 3, 3), [(3, "c", 0, 1)])
        self.assertEqual(of_days(stream, 1, 5), stream)

    def test_in_the_streams_order_with_things_alike(self):
        self.assertEqual(of_days(PLAIN, 1, 3), [(3, "a", 5, 2), (3, "a", 5, 2), (1, "b", 5, 3)])

    def test_none_where_the_last_day_is_below_the_first(self):
        for first, last in ((3, 2), (7, 0), (0, -1), (THIRTY, -THIRTY)):
            self.assertEqual(of_days(PLAIN, first, last), [])

    def test_by_a_plain_walk(self):
        for stream in some_streams():
            for first in (-THIRTY, -1, 0, 1, 4, 9, 10, THIRTY):
                for last in (-THIRTY, -1, 0, 1, 4, 8, 9, 10, THIRTY):
                    wanted = []
                    for thing in stream:
                        if not thing[0] < first and not thing[0] > last:
                            wanted.append(thing)
                    self.assertEqual(of_days(stream, first, last), wanted)

    def test_what_is_told_is_the_askers_own(self):
        for first, last in ((0, 9), (3, 3), (5, 2)):
            stream = list(PLAIN)
            told = of_days(stream, first, last)
            kept = list(told)
            self.assertIs(type(told), list)
            self.assertIs(is_stream(told), True)
            told.append((0, "x", 0, 1))
            self.assertEqual(stream, PLAIN)
            self.assertEqual(of_days(stream, first, last), kept)
            again = of_days(stream, first, last)
            stream.clear()
            self.assertEqual(again, kept)
