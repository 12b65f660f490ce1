"""Streams, trees and tallies that the tests share, the same ones in every run, and plain counts of them."""

import random

from sumshare.errors import ShareError
from sumshare.tallies import bounds_of

THIRTY = 10 ** 30 - 1

WORDS = ("a", "b", "z", "ab", "ba", "abcdefgh", "zzzzzzzz")

# More than two tallies of the greatest room hold.
MANY_WORDS = [one + other for one in "abcdefg" for other in ("", "a", "b", "zz", "bcdefgh", "x", "xy")]

# Things that are no whole numbers, and things that are no marks.
NO_WHOLES = (True, False, "1", "", None, 1.0, 0.5, [1], (1,), {1: 1}, object())
NO_MARKS = (
    "", "abcdefghi", "A", "aB", "Abc", " ", "a b", " a", "a ", "1", "a1", "1a", "a-b", "a_b", "a.", "a\n", "\n",
    "\u00e4", "a\u00e9", "\u0430", "\u00aa", "a" * 20000,
    None, 1, True, ("a",), ["a"], {"a": 1}, b"a", object(),
)

PLAIN = [
    (3, "a", 5, 2),
    (0, "b", 0, 1),
    (3, "a", 5, 2),
    (7, "abcdefgh", 9, 40),
    (1, "b", 5, 3),
]


def some_stream(source, length):
    stream = []
    for place in range(length):
        many = THIRTY if source.randrange(20) == 0 else source.randrange(1, 6)
        number = THIRTY if source.randrange(20) == 0 else source.randrange(12)
        stream.append((source.randrange(10), source.choice(WORDS), number, many))
    return stream


def some_streams():
    source = random.Random(4)
    lengths = [0, 1, 2, 3] + [source.randrange(60) for turn in range(40)] + [300]
    return [[], list(PLAIN)] + [some_stream(source, length) for length in lengths]


def some_tree(source, streams):
    """A tree of the streams, parted anywhere, so that it leans as it comes."""
    if len(streams) == 1:
        return streams[0]
    middle = source.randrange(1, len(streams))
    return ("merged", some_tree(source, streams[:middle]), some_tree(source, streams[middle:]))


def turned(tree):
    """The tree with the two of each merging the other way round."""
    if isinstance(tree, list):
        return tree
    return ("merged", turned(tree[2]), turned(tree[1]))


def leaning_left(streams):
    tree = streams[0]
    for stream in streams[1:]:
        tree = ("merged", tree, stream)
    return tree


def leaning_right(streams):
    tree = streams[-1]
    for stream in reversed(streams[:-1]):
        tree = ("merged", stream, tree)
    return tree


def depth_of(tree):
    if isinstance(tree, list):
        return 0
    return 1 + max(depth_of(tree[1]), depth_of(tree[2]))


def lists_in(tree):
    """The very lists of the tree, not copies of them."""
    if isinstance(tree, list):
        return [tree]
    return lists_in(tree[1]) + lists_in(tree[2])


def some_count(source):
    """From 1 on: small ones, so that many are alike, and great ones, of which some are alike too."""
    return source.choice((
        source.randrange(1, 4), source.randrange(1, 9), source.randrange(1, 200),
        THIRTY, THIRTY - source.randrange(3), source.randrange(1, THIRTY),
    ))


def drawn_tree(source, room, numbers=range(9)):
    """A tree within the sizes told: any shape, mostly with more marks than room, small counts, great ones or both."""
    words = source.sample(MANY_WORDS, source.choice((1, room, room + 1, 2 * room, len(MANY_WORDS), len(MANY_WORDS))))
    small = source.randrange(2) == 0
    how_many = source.choice((1, 2, 3, 5, 10, 20, 40))
    longest = min(300 // how_many, source.choice((2, 7, 30, 60)))
    streams = []
    for turn in range(how_many):
        stream = []
        for place in range(source.randrange(longest + 1)):
            many = source.randrange(1, 4) if small else some_count(source)
            stream.append((source.randrange(5), source.choice(words), source.choice(numbers), many))
        streams.append(stream)
    tree = some_tree(source, streams)
    while depth_of(tree) > 20:
        tree = some_tree(source, streams)
    return tree


def drawn_tally(source, room):
    """A tally of the room, by its two edges alone: made so, and neither too little nor too much let go."""
    words = sorted(source.sample(MANY_WORDS, source.randrange(room + 1)))
    counts = tuple((word, some_count(source)) for word in words)
    let = source.choice((0, 1, 2, source.randrange(20), some_count(source)))
    least, most = (room + 1) * let, 2 * room * let
    uncounted = source.choice((least, most, source.randint(least, most), min(least + 1, most), max(most - 1, least)))
    return (room, counts, let, sum(count for word, count in counts) + uncounted)


def plain_merged(one, other):
    """Merged by rounds: while there are more marks than room, the least count is taken from all of them.

    Told are the tally and the bunches: the marks of each round, and what was taken.
    """
    room, let = one[0], one[2] + other[2]
    sums, bunches = {}, []
    for mark, count in one[1] + other[1]:
        sums[mark] = sums.get(mark, 0) + count
    while len(sums) > room:
        least = min(sums.values())
        bunches.append((tuple(sorted(sums)), least))
        sums = {mark: count - least for mark, count in sums.items() if count > least}
        let = let + least
    return (room, tuple(sorted(sums.items())), let, one[3] + other[3]), bunches


def plain_kept(room, tree):
    """The tally of the tree, and its paper, by rounds."""
    if isinstance(tree, list):
        kept, paper = (room, (), 0, 0), []
        for day, mark, number, many in tree:
            kept, bunches = plain_merged(kept, (room, ((mark, many),), 0, many))
            paper = paper + bunches
        return kept, paper
    one, one_paper = plain_kept(room, tree[1])
    other, other_paper = plain_kept(room, tree[2])
    kept, bunches = plain_merged(one, other)
    return kept, one_paper + other_paper + bunches


def plain_times(tree):
    """How often each mark stands in the tree's stream, by a walk through its lists."""
    times = {}
    for stream in lists_in(tree):
        for day, mark, number, many in stream:
            times[mark] = times.get(mark, 0) + many
    return times


def check_bounds(test, tally, tree):
    """That the bounds of each mark hold for the tree's stream, and what was let go came from more marks than room."""
    times = plain_times(tree)
    room, counts, let, total = tally
    for mark in MANY_WORDS + ["nowhere"]:
        least, most = bounds_of(tally, mark)
        test.assertEqual((least, most), (dict(counts).get(mark, 0), dict(counts).get(mark, 0) + let))
        test.assertLessEqual(least, times.get(mark, 0))
        test.assertLessEqual(times.get(mark, 0), most)
    test.assertEqual(total, sum(times.values()))
    test.assertLessEqual((room + 1) * let, total - sum(count for mark, count in counts))


def check_refused(test, error, call, *values):
    """That the call is refused with just this class, which is a ShareError and a ValueError."""
    with test.assertRaises(ValueError) as caught:
        call(*values)
    test.assertIs(type(caught.exception), error)
    test.assertIsInstance(caught.exception, ShareError)
