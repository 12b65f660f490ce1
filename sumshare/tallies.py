"""Tallies: counts of some marks, and how much of each mark at most was let go."""

from sumshare.cuts import cut_of
from sumshare.errors import NoRoom
from sumshare.kinds import added_counts, are_counts, is_mark, is_room, is_whole_from
from sumshare.trees import grown


def empty_tally(room):
    return (room, (), 0, 0)


def thing_tally(room, thing):
    day, mark, number, many = thing
    return (room, ((mark, many),), 0, many)


def added_sums(one, other):
    """A dict from marks to the sums of their counts in two tallies."""
    if one[0] != other[0]:
        raise NoRoom("tallies of unlike rooms")
    return added_counts(one[1], other[1])


def merged_tally(one, other):
    sums = added_sums(one, other)
    room = one[0]
    cut = cut_of(room, sums)
    counts = [(mark, sums[mark] - cut) for mark in sorted(sums) if sums[mark] > cut]
    return (room, tuple(counts), one[2] + other[2] + cut, one[3] + other[3])


def tally_of(room, stream):
    tally = empty_tally(room)
    for thing in stream:
        tally = merged_tally(tally, thing_tally(room, thing))
    return tally


def grown_tally(room, tree):
    return grown(tree, lambda stream: tally_of(room, stream), merged_tally)


def count_in(tally, mark):
    return dict(tally[1]).get(mark, 0)


def bounds_of(tally, mark):
    count = count_in(tally, mark)
    return (count, count + tally[2])


def uncounted_in(tally):
    """How many of all things no count tells of."""
    room, counts, let, total = tally
    return total - sum([count for mark, count in counts])


def is_made_as_tally(thing):
    """Whether it has the form of a tally, be it one of a tree or not."""
    if not isinstance(thing, tuple) or len(thing) != 4:
        return False
    room, counts, let, total = thing
    if not is_room(room) or not are_counts(counts, is_mark):
        return False
    return len(counts) <= room and is_whole_from(let, 0) and is_whole_from(total, 0)


def is_tally(thing):
    if not is_made_as_tally(thing):
        return False
    room, counts, let, total = thing
    # A cut takes from more marks than room, and two tallies together have at most twice the room.
    uncounted = uncounted_in(thing)
    return (room + 1) * let <= uncounted and uncounted <= 2 * room * let
