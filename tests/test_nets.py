import copy
import random
import unittest

from sumshare.errors import NoMark
from sumshare.nets import cells_at, is_net
from tests.net_samples import NET_WORDS, drawn_net
from tests.samples import NO_MARKS, NO_WHOLES, PLAIN, THIRTY, check_refused

GOOD = (("ash", 0, 30), ("elm", 30, 0), ("fir", 7, 7), ("oak", 7, 7))


class IsNetTest(unittest.TestCase):
    def check(self, thing, told):
        with self.subTest(repr(thing)[:200]):
            self.assertIs(is_net(thing), told)

    def with_knot(self, place, knot):
        return GOOD[:place] + (knot,) + GOOD[place + 1:]

    def test_of_none_to_sixty_marks(self):
        source = random.Random(121)
        for how_many in range(61):
            self.check(drawn_net(source, how_many), True)
            self.check(tuple((word, 0, 0) for word in NET_WORDS[:how_many]), True)
        for how_many in (61, 62, 64):
            self.check(drawn_net(source, how_many), False)
            self.check(tuple((word, 0, 0) for word in NET_WORDS[:how_many]), False)

    def test_two_marks_with_both_alike(self):
        self.check(GOOD, True)
        self.check((("a", 3, 4), ("b", 3, 4)), True)

    def test_the_longest_and_the_shortest_marks(self):
        self.check((("a", 0, 0), ("aaaaaaaa", 0, 1), ("z", 1, 0), ("zzzzzzzz", 30, 30)), True)
        self.check((("a", 0, 0), ("aaaaaaaaa", 0, 1)), False)

    def test_marks_rise_each_once(self):
        for place in range(3):
            turned = list(GOOD)
            turned[place], turned[place + 1] = turned[place + 1], turned[place]
            self.check(tuple(turned), False)
            self.check(GOOD[:place] + (GOOD[place],) + GOOD[place:], False)
            self.check(self.with_knot(place + 1, (GOOD[place][0], 1, 2)), False)
        self.check(GOOD[::-1], False)
        # Rising by the marks alone, whatever the rows and columns are.
        self.check((("a", 5, 5), ("b", 4, 4), ("c", 0, 0)), True)
        self.check((("a", 0, 0), ("a", 1, 1)), False)

    def test_rows_and_columns_from_0_to_30(self):
        for number in range(31):
            self.check((("a", number, 30 - number),), True)
        for spoilt in (-1, 31, 32, -30, THIRTY, -THIRTY) + NO_WHOLES:
            for place in range(4):
                self.check(self.with_knot(place, (GOOD[place][0], spoilt, 1)), False)
                self.check(self.with_knot(place, (GOOD[place][0], 1, spoilt)), False)
            self.check((("a", spoilt, 1),), False)
            self.check((("a", 1, spoilt),), False)

    def test_no_mark_in_the_place_of_one(self):
        for spoilt in NO_MARKS:
            self.check(((spoilt, 1, 1),), False)
            for place in range(4):
                self.check(self.with_knot(place, (spoilt, 1, 1)), False)

    def test_no_tuple_of_three_in_the_place_of_one(self):
        for spoilt in (
            (), ("b",), ("b", 1), ("b", 1, 1, 1), ["b", 1, 1], "bcd", "b", 3, None, True, {}, {"b": 1, "c": 1, "d": 1},
            {"b", 1, 2}, (1, 1, "b"), (1, "b", 1), (("b", 1, 1),), object(),
        ):
            self.check((spoilt,), False)
            for place in range(4):
                self.check(self.with_knot(place, spoilt), False)
            self.check(GOOD + (spoilt,), False)

    def test_whatever_thing(self):
        ring = []
        ring.append(ring)
        for thing in (
            None, True, False, 0, 1, THIRTY, 1.5, "", "abc", "a", b"", [], {}, set(), object(), list, ring, (ring,),
            (ring, ring, ring), list(GOOD), GOOD[0], [GOOD], (GOOD,), {"ash": (0, 30)}, iter(GOOD), range(3), range(0),
            PLAIN, tuple(PLAIN), frozenset(), "()", ((),), ("", 0, 0), dict.fromkeys(GOOD), ("merged", [], []),
        ):
            self.check(thing, False)
        self.check((), True)

    def test_what_is_asked_of_stays(self):
        for thing in (list(GOOD), [list(knot) for knot in GOOD], tuple(list(knot) for knot in GOOD), GOOD):
            before = copy.deepcopy(thing)
            self.check(thing, thing == GOOD)
            self.assertEqual(thing, before)


class CellsAtTest(unittest.TestCase):
    def test_each_mark(self):
        told = [cells_at(GOOD, mark) for mark in ("ash", "elm", "fir", "oak")]
        self.assertEqual(told, [(0, 30), (30, 0), (7, 7), (7, 7)])
        self.assertIs(type(told[0]), tuple)
        self.assertEqual([type(number) for number in told[0]], [int, int])

    def test_no_mark_of_the_net(self):
        for mark in ("as", "ashe", "a", "yew", "zzzzzzzz", "b", "oaks", "oa"):
            check_refused(self, NoMark, cells_at, GOOD, mark)
            check_refused(self, NoMark, cells_at, (), mark)
        for text in [spoilt for spoilt in NO_MARKS if isinstance(spoilt, str)] + ["Ash", "ASH", " ash", "ash\n", "0"]:
            check_refused(self, NoMark, cells_at, GOOD, text)
            check_refused(self, NoMark, cells_at, (), text)

    def test_drawn_nets(self):
        source = random.Random(122)
        for how_many in range(61):
            net = drawn_net(source, how_many)
            before = copy.deepcopy(net)
            places = {mark: (row, column) for mark, row, column in net}
            for word in NET_WORDS:
                if word in places:
                    self.assertEqual(cells_at(net, word), places[word])
                else:
                    check_refused(self, NoMark, cells_at, net, word)
            self.assertEqual(net, before)
