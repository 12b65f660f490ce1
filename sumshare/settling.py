"""Settling: pairs of stretches are folded into their parents, as long as one folds."""

from sumshare.stretches import pair_of, parent_of


def bar_of(ladder):
    room, deep, counts, total = ladder
    return total // room


def joint_count(counts, stretch):
    """How much the pair of the stretch and their parent count together."""
    one, other = pair_of(stretch)
    return counts.get(one, 0) + counts.get(other, 0) + counts.get(parent_of(stretch), 0)


def first_folding(deep, bar, counts):
    """A stretch of the first pair that folds, by a dict from stretches to counts; None where no pair does."""
    # Stretches with a count alone, so each pair that is looked at has one; rising, so the first pair comes first.
    for stretch in sorted(counts):
        if stretch[0] < deep and joint_count(counts, stretch) <= bar:
            return stretch
    return None


def fold_up(counts, stretch, many):
    """In a dict from stretches to counts so many go from the stretch, which has them, to its parent."""
    parent = parent_of(stretch)
    counts[parent] = counts.get(parent, 0) + many
    counts[stretch] = counts[stretch] - many
    if counts[stretch] == 0:
        counts.pop(stretch)


def settling_of(ladder):
    """The settled ladder, and the list of all folds on the way."""
    room, deep, pairs, total = ladder
    bar = bar_of(ladder)
    counts = dict(pairs)
    folds = []
    stretch = first_folding(deep, bar, counts)
    while stretch is not None:
        for one in pair_of(stretch):
            if one in counts:
                folds.append((one, counts[one]))
                fold_up(counts, one, counts[one])
        # From the lowest anew: the fold may have made a lower pair fold.
        stretch = first_folding(deep, bar, counts)
    return ((room, deep, tuple(sorted(counts.items())), total), folds)


def settled(ladder):
    return settling_of(ladder)[0]


def folds_in(ladder):
    return settling_of(ladder)[1]


def is_settled(ladder):
    room, deep, counts, total = ladder
    return first_folding(deep, bar_of(ladder), dict(counts)) is None
