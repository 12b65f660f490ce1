"""What whole numbers, marks, rooms and counts are, told of whatever thing, and counts added."""

LETTERS = "abcdefghijklmnopqrstuvwxyz"
LONGEST_MARK = 8
MOST_ROOM = 20


def is_whole(thing):
    # Python counts True and False among its ints; they are no whole numbers here.
    return isinstance(thing, int) and not isinstance(thing, bool)


def is_whole_from(thing, least):
    return is_whole(thing) and thing >= least


def is_whole_within(thing, least, most):
    return is_whole_from(thing, least) and thing <= most


def is_mark(thing):
    if not isinstance(thing, str) or len(thing) < 1 or len(thing) > LONGEST_MARK:
        return False
    # Not islower: it takes letters beyond z, and figures beside a letter.
    return all([sign in LETTERS for sign in thing])


def is_rising(parts):
    # Each behind a lesser one, so none stands there twice.
    return all([one < other for one, other in zip(parts, parts[1:])])


def is_room(thing):
    return is_whole_within(thing, 1, MOST_ROOM)


def is_count(thing, is_key):
    if not isinstance(thing, tuple) or len(thing) != 2:
        return False
    key, count = thing
    return is_key(key) and is_whole_from(count, 1)


def are_counts(thing, is_key):
    """Whether it is a tuple of tuples (key, count), rising by their keys, each count from 1 on."""
    if not isinstance(thing, tuple) or not all([is_count(one, is_key) for one in thing]):
        return False
    return is_rising([key for key, count in thing])


def added_counts(one, other):
    """A dict from the keys of both to the sums of their two counts."""
    sums = dict(one)
    for key, count in other:
        sums[key] = sums.get(key, 0) + count
    return sums
