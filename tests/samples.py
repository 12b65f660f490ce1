"""Streams and trees that the tests share: the same ones in every run."""

import random

THIRTY = 10 ** 30 - 1

WORDS = ("a", "b", "z", "ab", "ba", "abcdefgh", "zzzzzzzz")

PLAIN = [
    (3, "a", 5, 2),
    (0, "b", 0, 1),
    (3, "a", 5, 2),
    (7, "abcdefgh", 9, 40),
    (1, "b", 5, 3),
]


def some_stream(source, length):
    stream = []
    for place in range(length):
        many = THIRTY if source.randrange(20) == 0 else source.randrange(1, 6)
        number = THIRTY if source.randrange(20) == 0 else source.randrange(12)
        stream.append((source.randrange(10), source.choice(WORDS), number, many))
    return stream


def some_streams():
    source = random.Random(4)
    lengths = [0, 1, 2, 3] + [source.randrange(60) for turn in range(40)] + [300]
    return [[], list(PLAIN)] + [some_stream(source, length) for length in lengths]


def some_tree(source, streams):
    """A tree of the streams, parted anywhere, so that it leans as it comes."""
    if len(streams) == 1:
        return streams[0]
    middle = source.randrange(1, len(streams))
    return ("merged", some_tree(source, streams[:middle]), some_tree(source, streams[middle:]))


def leaning_left(streams):
    tree = streams[0]
    for stream in streams[1:]:
        tree = ("merged", tree, stream)
    return tree


def leaning_right(streams):
    tree = streams[-1]
    for stream in reversed(streams[:-1]):
        tree = ("merged", stream, tree)
    return tree
