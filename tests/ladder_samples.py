"""Ladders that the tests share, the same ones in every run, and settling them by hand."""

from tests.samples import THIRTY, drawn_tree, leaning_left, leaning_right, lists_in, some_count, some_tree


def stretches_of(deep):
    """All stretches of a ladder so deep, rising."""
    return [(height, index) for height in range(deep + 1) for index in range(2 ** (deep - height))]


def ladder_by(room, deep, counts):
    """The ladder with these counts, a dict, its pairs folding or not."""
    return (room, deep, tuple(sorted(counts.items())), sum(counts.values()))


def stream_by(*pairs):
    """A stream of tuples (number, many)."""
    return [(place, "a", number, many) for place, (number, many) in enumerate(pairs)]


def drawn_ladder(source, room, deep):
    """Made as told, its pairs folding or not: few counts or many, small ones, great ones or both."""
    stretches = stretches_of(deep)
    if source.randrange(3) == 0:
        stretches = [(height, index) for height, index in stretches if index < 8]
    how_many = source.choice((0, 1, 2, 3, 5, 8, 12, 4 * room, 60))
    draw = source.choice((
        lambda: 1, lambda: source.randrange(1, 4), lambda: source.randrange(1, 200), lambda: some_count(source),
        lambda: source.choice((1, 2, 1000)), lambda: source.randrange(THIRTY // 2, THIRTY),
    ))
    chosen = source.sample(stretches, min(how_many, len(stretches)))
    return ladder_by(room, deep, {stretch: draw() for stretch in chosen})


def drawn_numbers(source, deep):
    """Numbers below 2 to the power deep: all, few, or a clump of them."""
    end = 2 ** deep
    low = source.randrange(end)
    return source.choice((
        range(end), range(end), (0, end - 1), range(low, min(end, low + 5)),
        [source.randrange(end) for turn in range(4)], [source.randrange(end) for turn in range(30)],
    ))


def drawn_number_tree(source, room, deep):
    return drawn_tree(source, room, drawn_numbers(source, deep))


def trees_with_one_beyond(source, deep):
    """Trees of several shapes, each with one number that isn't below 2 to the power deep, anywhere."""
    streams = [stream_by(*[(source.randrange(2 ** deep), 1) for at in range(3)]) for place in range(6)]
    source.choice(streams)[source.randrange(3)] = (0, "a", 2 ** deep + source.randrange(3), 1)
    return some_tree(source, streams), leaning_left(streams), leaning_right(streams)


def plain_settled(ladder):
    """The settled ladder and the folds, by folding the first pair that folds, and looking anew from the lowest."""
    room, deep, pairs, total = ladder
    counts, folds = dict(pairs), []
    while True:
        for height, half in sorted({(height, index // 2) for height, index in counts if height < deep}):
            two, parent = [(height, 2 * half), (height, 2 * half + 1)], (height + 1, half)
            if sum(counts.get(stretch, 0) for stretch in two + [parent]) <= total // room:
                break
        else:
            return ladder_by(room, deep, counts), folds
        done = [(stretch, counts.pop(stretch)) for stretch in two if stretch in counts]
        counts[parent] = counts.get(parent, 0) + sum(many for stretch, many in done)
        folds = folds + done


def plain_merging(one, other):
    """The two ladders merged, and the folds of merging them."""
    counts = dict(one[2])
    for stretch, count in other[2]:
        counts[stretch] = counts.get(stretch, 0) + count
    return plain_settled(ladder_by(one[0], one[1], counts))


def plain_merged_ladder(one, other):
    return plain_merging(one, other)[0]


def plain_folded(room, deep, tree):
    """The ladder of the tree, settled by hand at each step, and all folds on the way."""
    if isinstance(tree, list):
        ladder, paper = (room, deep, (), 0), []
        for day, mark, number, many in tree:
            thing, own = plain_settled(ladder_by(room, deep, {(0, number): many}))
            ladder, folds = plain_merging(ladder, thing)
            paper = paper + own + folds
        return ladder, paper
    one, one_paper = plain_folded(room, deep, tree[1])
    other, other_paper = plain_folded(room, deep, tree[2])
    ladder, folds = plain_merging(one, other)
    return ladder, one_paper + other_paper + folds


def plain_ladder(room, deep, tree):
    return plain_folded(room, deep, tree)[0]


def plain_numbers(tree):
    """A rising list of tuples (number, how often it stands in the tree's stream), by a walk through its lists."""
    times = {}
    for stream in lists_in(tree):
        for day, mark, number, many in stream:
            times[number] = times.get(number, 0) + many
    return sorted(times.items())
