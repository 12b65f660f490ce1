"""Nets: two told tables, by which each mark has a row and a column."""

from sumshare.errors import NoMark
from sumshare.kinds import is_mark, is_rising, is_whole_within

MOST_MARKS = 60
LAST_CELL = 30


def is_cell(thing):
    """Whether it may be the number of a row, or of a column."""
    return is_whole_within(thing, 0, LAST_CELL)


def is_knot(thing):
    """Whether it is a tuple (mark, row, column)."""
    if not isinstance(thing, tuple) or len(thing) != 3:
        return False
    mark, row, column = thing
    return is_mark(mark) and is_cell(row) and is_cell(column)


def is_net(thing):
    if not isinstance(thing, tuple) or len(thing) > MOST_MARKS or not all([is_knot(one) for one in thing]):
        return False
    return is_rising([mark for mark, row, column in thing])


def cells_at(net, mark):
    for word, row, column in net:
        if word == mark:
            return (row, column)
    raise NoMark("a mark that isn't in the net")
