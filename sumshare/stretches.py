"""Stretches of numbers: tuples (height, index), each height twice as long as the one below."""

from sumshare.kinds import is_whole_within


def first_of(stretch):
    height, index = stretch
    return index << height


def last_of(stretch):
    height, index = stretch
    return first_of((height, index + 1)) - 1


def parent_of(stretch):
    height, index = stretch
    return (height + 1, index // 2)


def pair_of(stretch):
    """Both of the pair in which the stretch stands, the lesser index first."""
    height, index = stretch
    lesser = index - index % 2
    return ((height, lesser), (height, lesser + 1))


def stretch_at(height, x):
    return (height, x >> height)


def is_within(stretch, other):
    height, index = stretch
    above, place = other
    # One stretch of each greater height has all its numbers: so many halvings of its index tell which.
    return height <= above and index >> (above - height) == place


def is_stretch(thing, deep):
    """Whether it is a stretch of a ladder so deep."""
    if not isinstance(thing, tuple) or len(thing) != 2:
        return False
    height, index = thing
    return is_whole_within(height, 0, deep) and is_whole_within(index, 0, last_of((deep - height, 0)))
