import copy
import itertools
import random
import unittest

from sumshare.cells import cells_of, may_be, merged_cells, open_marks
from sumshare.errors import NoMark
from sumshare.trees import stream_of
from tests.net_samples import drawn_cells, drawn_net, plain_cells, stream_of_marks
from tests.samples import PLAIN, THIRTY, check_refused, lists_in, some_tree

NET = (("ash", 0, 30), ("elm", 30, 0), ("fir", 7, 7), ("oak", 7, 7), ("yew", 7, 0))
NOTHING = ((), ())


def with_marks(*marks):
    return [(place, mark, place, place + 1) for place, mark in enumerate(marks)]


class CellsOfTest(unittest.TestCase):
    def check(self, marks, told):
        self.assertEqual(cells_of(NET, with_marks(*marks)), told)
        self.assertEqual(cells_of(NET, with_marks(*marks[::-1])), told)
        self.assertEqual(cells_of(NET, with_marks(*marks) + with_marks(*marks)), told)

    def test_by_hand(self):
        self.check((), NOTHING)
        self.check(("ash",), ((0,), (30,)))
        self.check(("elm", "ash"), ((0, 30), (0, 30)))
        self.check(("fir",), ((7,), (7,)))
        self.check(("oak", "fir"), ((7,), (7,)))
        self.check(("yew", "oak"), ((7,), (0, 7)))
        self.check(("yew", "elm"), ((7, 30), (0,)))
        self.check(("yew", "oak", "fir", "elm", "ash"), ((0, 7, 30), (0, 7, 30)))

    def test_days_numbers_and_manys_do_not_matter(self):
        stream = [(THIRTY, "elm", THIRTY, THIRTY), (0, "yew", 0, 1)]
        self.assertEqual(cells_of(NET, stream), ((7, 30), (0,)))

    def test_a_mark_that_is_not_in_the_net(self):
        marks = ["ash", "elm", "fir", "oak", "yew"]
        for place, mark in itertools.product(range(6), ("a", "as", "ashes", "zzzzzzzz", "lime")):
            stream = with_marks(*(marks[:place] + [mark] + marks[place:]))
            before = list(stream)
            check_refused(self, NoMark, cells_of, NET, stream)
            self.assertEqual(stream, before)
        check_refused(self, NoMark, cells_of, NET, PLAIN)
        check_refused(self, NoMark, cells_of, (), with_marks("ash"))
        self.assertEqual(cells_of((), []), NOTHING)

    def check_kinds(self, cells):
        self.assertIs(type(cells), tuple)
        self.assertEqual([type(side) for side in cells], [tuple, tuple])
        for side in cells:
            self.assertEqual({type(number) for number in side} | {int}, {int})
            self.assertEqual(list(side), sorted(set(side)))

    def test_drawn_streams(self):
        source = random.Random(131)
        for how_many in list(range(1, 61)) * 3:
            net = drawn_net(source, how_many)
            words = [mark for mark, row, column in net]
            stream = stream_of_marks(source, source.choices(words, k=source.choice((0, 1, 2, 5, 20, 300))))
            before = copy.deepcopy((net, stream))
            cells = cells_of(net, stream)
            self.assertEqual(cells, plain_cells(net, [thing[1] for thing in stream]))
            self.check_kinds(cells)
            self.assertIs(may_be(net, cells), True)
            for day, mark, number, many in stream:
                self.assertIn(mark, open_marks(net, cells))
            self.assertEqual((net, stream), before)


def grown_cells(net, tree):
    if isinstance(tree, list):
        return cells_of(net, tree)
    return merged_cells(grown_cells(net, tree[1]), grown_cells(net, tree[2]))


class MergedCellsTest(unittest.TestCase):
    def check(self, one, other, told):
        self.assertEqual(merged_cells(one, other), told)
        self.assertEqual(merged_cells(other, one), told)
        self.assertEqual(merged_cells(told, one), told)
        self.assertEqual(merged_cells(other, told), told)

    def test_by_hand(self):
        self.check(NOTHING, NOTHING, NOTHING)
        self.check(((3,), (4, 9)), NOTHING, ((3,), (4, 9)))
        self.check(((3, 5), (4, 9)), ((5, 30), (0, 4, 10)), ((3, 5, 30), (0, 4, 9, 10)))
        self.check(((10,), (2,)), ((9,), (11,)), ((9, 10), (2, 11)))
        self.check((tuple(range(31)), ()), ((), tuple(range(31))), (tuple(range(31)),) * 2)

    def test_drawn_ones(self):
        source = random.Random(132)
        for turn in range(500):
            net = drawn_net(source, source.randrange(61))
            one, other, third = [drawn_cells(source, net) for place in range(3)]
            before = copy.deepcopy((one, other))
            told = tuple(tuple(sorted(set(one[side]) | set(other[side]))) for side in (0, 1))
            self.check(one, other, told)
            self.assertEqual(merged_cells(one, one), one)
            self.assertEqual(merged_cells(one, NOTHING), one)
            self.assertEqual(merged_cells(told, third), merged_cells(one, merged_cells(other, third)))
            self.assertEqual((one, other), before)

    def test_trees_of_whatever_shape(self):
        source = random.Random(133)
        for turn in range(200):
            net = drawn_net(source, source.randrange(1, 61))
            words = [mark for mark, row, column in net]
            streams = [
                stream_of_marks(source, source.choices(words, k=source.randrange(7)))
                for place in range(source.choice((1, 2, 3, 10, 40)))
            ]
            tree = some_tree(source, streams)
            told = cells_of(net, stream_of(tree))
            self.assertEqual(grown_cells(net, tree), told)
            self.assertEqual(grown_cells(net, some_tree(source, streams[::-1])), told)
            again = some_tree(source, streams + source.choices(streams, k=5))
            self.assertEqual(grown_cells(net, again), told)
            self.assertEqual(plain_cells(net, [thing[1] for stream in lists_in(tree) for thing in stream]), told)


def every_cells(numbers):
    sides = [side for size in range(len(numbers) + 1) for side in itertools.combinations(numbers, size)]
    return list(itertools.product(sides, repeat=2))


class OpenMarksTest(unittest.TestCase):
    def check(self, cells, marks, may):
        with self.subTest(repr(cells)):
            self.assertEqual(open_marks(NET, cells), marks)
            self.assertIs(may_be(NET, cells), may)

    def test_by_hand(self):
        self.check(NOTHING, [], True)
        self.check(((0,), (30,)), ["ash"], True)
        self.check(((7,), (7,)), ["fir", "oak"], True)
        self.check(((7,), (0, 7)), ["fir", "oak", "yew"], True)
        self.check(((0, 30), (0, 30)), ["ash", "elm"], True)
        self.check(((0, 7, 30), (0, 7, 30)), ["ash", "elm", "fir", "oak", "yew"], True)
        self.check(((0, 7), (7, 30)), ["ash", "fir", "oak"], True)

    def test_a_row_or_column_of_none(self):
        self.check(((0,), (0,)), [], False)
        self.check(((0,), ()), [], False)
        self.check(((), (30,)), [], False)
        self.check(((1,), (1,)), [], False)
        self.check(((0, 1), (30,)), ["ash"], False)
        self.check(((0,), (29, 30)), ["ash"], False)
        self.check(((0, 7), (0, 7)), ["fir", "oak", "yew"], False)
        self.check(((7, 30), (7,)), ["fir", "oak"], False)
        self.check(((7,), (0, 7, 30)), ["fir", "oak", "yew"], False)
        self.check(tuple([tuple(range(31))] * 2), ["ash", "elm", "fir", "oak", "yew"], False)

    def test_of_a_net_without_marks(self):
        for cells, told in ((NOTHING, True), (((0,), (0,)), False), (((0,), ()), False), (((), (0,)), False)):
            self.assertEqual(open_marks((), cells), [])
            self.assertIs(may_be((), cells), told)

    def check_by_the_words(self, net, cells):
        before = copy.deepcopy((net, cells))
        rows, columns = cells
        marks, met_rows, met_columns = [], [], []
        for mark, row, column in net:
            if row in rows and column in columns:
                marks.append(mark)
                met_rows.append(row)
                met_columns.append(column)
        told = all(row in met_rows for row in rows) and all(column in met_columns for column in columns)
        self.assertEqual(open_marks(net, cells), marks)
        self.assertEqual(marks, sorted(set(marks)))
        self.assertIs(may_be(net, cells), told)
        self.assertEqual((net, cells), before)
        return told

    def test_drawn_cells(self):
        source = random.Random(134)
        may, may_not = 0, 0
        for turn in range(3000):
            net = drawn_net(source, source.randrange(61), source.choice((1, 3, 30)))
            cells = drawn_cells(source, net)
            if turn % 3 == 0 and net:
                marks = source.choices([mark for mark, row, column in net], k=source.randrange(5))
                cells = plain_cells(net, marks)
            told = self.check_by_the_words(net, cells)
            may, may_not = may + told, may_not + (not told)
        self.assertGreater(may, 500)
        self.assertGreater(may_not, 500)

    def test_they_may_be_just_where_some_marks_leave_them(self):
        source = random.Random(135)
        for turn in range(60):
            net = drawn_net(source, source.randrange(8), 2)
            words = [mark for mark, row, column in net]
            left = {
                plain_cells(net, marks) for size in range(len(words) + 1)
                for marks in itertools.combinations(words, size)
            }
            for cells in every_cells(range(3)):
                self.assertIs(may_be(net, cells), cells in left)
                self.check_by_the_words(net, cells)

    def test_lists_are_the_askers_own(self):
        for cells in (((7,), (0, 7)), NOTHING):
            told = open_marks(NET, cells)
            kept = list(told)
            self.assertIs(type(told), list)
            told.append("zzz")
            self.assertEqual(open_marks(NET, cells), kept)

    def test_a_stream_that_changed_is_told_anew(self):
        stream = with_marks("ash")
        early = cells_of(NET, stream)
        stream.append((0, "elm", 0, 1))
        self.assertEqual(early, ((0,), (30,)))
        self.assertEqual(cells_of(NET, stream), ((0, 30), (0, 30)))
