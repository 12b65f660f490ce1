"""Ladders: counts of stretches of numbers, the longer ones never more than a bar."""

from sumshare.errors import NoNumber, NoRoom
from sumshare.kinds import added_counts, are_counts, is_room, is_whole, is_whole_within
from sumshare.settling import bar_of, is_settled, settled
from sumshare.stretches import is_stretch, last_of
from sumshare.trees import grown

DEEPEST = 10


def empty_ladder(room, deep):
    return (room, deep, (), 0)


def thing_ladder(room, deep, thing):
    """The ladder of a thing, ahead of its settling."""
    day, mark, number, many = thing
    if number > last_of((deep, 0)):
        raise NoNumber("a number beyond the end of the ladder")
    return (room, deep, (((0, number), many),), many)


def added_ladder(one, other):
    """Two ladders put together, ahead of settling."""
    if one[:2] != other[:2]:
        raise NoRoom("ladders of unlike rooms or depths")
    room, deep, counts, total = one
    sums = added_counts(counts, other[2])
    return (room, deep, tuple(sorted(sums.items())), total + other[3])


def merged_ladder(one, other):
    return settled(added_ladder(one, other))


def ladder_of(room, deep, stream):
    ladder = empty_ladder(room, deep)
    for thing in stream:
        ladder = merged_ladder(ladder, settled(thing_ladder(room, deep, thing)))
    return ladder


def grown_ladder(room, deep, tree):
    return grown(tree, lambda stream: ladder_of(room, deep, stream), merged_ladder)


def is_made_as_ladder(thing):
    """Whether it has the form of a ladder, its pairs folding or not."""
    if not isinstance(thing, tuple) or len(thing) != 4:
        return False
    room, deep, counts, total = thing
    if not is_room(room) or not is_whole_within(deep, 1, DEEPEST):
        return False
    if not are_counts(counts, lambda one: is_stretch(one, deep)):
        return False
    return is_whole(total) and total == sum([count for stretch, count in counts])


def is_ladder(thing):
    if not is_made_as_ladder(thing) or not is_settled(thing):
        return False
    bar = bar_of(thing)
    return all([count <= bar for stretch, count in thing[2] if stretch[0] > 0])
