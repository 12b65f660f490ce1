"""Nets and cells that the tests share, the same ones in every run."""

NET_WORDS = sorted(one + other for one in "abcdefgh" for other in ("", "a", "ab", "m", "y", "zz", "bcdefgh", "x"))


def drawn_net(source, how_many, last=30):
    """A net of so many marks, with rows and columns from 0 to last: all of them, or few, so that many are alike."""
    numbers = source.choice((
        range(last + 1), range(last + 1), range(min(last, 5) + 1), (0, last), (source.randint(0, last),),
        [source.randint(0, last) for turn in range(6)],
    ))
    words = sorted(source.sample(NET_WORDS, how_many))
    return tuple((word, source.choice(numbers), source.choice(numbers)) for word in words)


def drawn_cells(source, net, last=30):
    """Any cells: of the net's numbers, or of others too."""
    sides = []
    for place in (1, 2):
        numbers = sorted({knot[place] for knot in net})
        if source.randrange(3) == 0:
            numbers = sorted(set(numbers) | {source.randint(0, last) for turn in range(4)})
        size = source.choice((0, 1, 2, len(numbers) // 2, len(numbers) - 1, len(numbers), len(numbers)))
        sides.append(tuple(sorted(source.sample(numbers, min(max(size, 0), len(numbers))))))
    return tuple(sides)


def stream_of_marks(source, marks):
    return [(source.randrange(9), mark, source.randrange(9), source.randrange(1, 9)) for mark in marks]


def plain_cells(net, marks):
    """The cells of the marks, by walking through the net for each."""
    rows, columns = [], []
    for mark in marks:
        for word, row, column in net:
            if word == mark and row not in rows:
                rows.append(row)
            if word == mark and column not in columns:
                columns.append(column)
    return tuple(sorted(rows)), tuple(sorted(columns))
