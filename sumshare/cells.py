"""Cells: which rows and which columns of a net were met."""

from sumshare.nets import cells_at


def put_together(numbers):
    """A rising tuple of the numbers, each once."""
    return tuple(sorted(set(numbers)))


def cells_by(places):
    """The cells of a list of tuples (row, column)."""
    return (put_together([row for row, column in places]), put_together([column for row, column in places]))


def cells_of(net, stream):
    return cells_by([cells_at(net, mark) for day, mark, number, many in stream])


def merged_cells(one, other):
    return (put_together(one[0] + other[0]), put_together(one[1] + other[1]))


def open_knots(net, cells):
    """The tuples (mark, row, column) of the net with both the row and the column among the cells."""
    rows, columns = cells
    return [(mark, row, column) for mark, row, column in net if row in rows and column in columns]


def open_marks(net, cells):
    return [mark for mark, row, column in open_knots(net, cells)]


def may_be(net, cells):
    # No open mark has another row or column, so all are met just where the cells of the open ones are these.
    return cells_by([(row, column) for mark, row, column in open_knots(net, cells)]) == cells
