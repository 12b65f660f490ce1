"""Papers of ladders: lists of folds, by each of which some of what stands at a stretch goes to its parent."""

from sumshare.kinds import added_counts
from sumshare.ladders import added_ladder, empty_ladder, thing_ladder
from sumshare.settling import fold_up, settling_of
from sumshare.stretches import is_stretch, parent_of
from sumshare.things import things_in
from sumshare.trees import grown


def merged_with_folds(one, other):
    """Of two tuples (ladder, paper) the one of both."""
    ladder, paper = one
    late_ladder, late_paper = other
    both, folds = settling_of(added_ladder(ladder, late_ladder))
    return (both, paper + late_paper + folds)


def stream_with_folds(room, deep, stream):
    kept = (empty_ladder(room, deep), [])
    for thing in stream:
        kept = merged_with_folds(kept, settling_of(thing_ladder(room, deep, thing)))
    return kept


def ladder_paper(room, deep, tree):
    ladder, paper = grown(tree, lambda stream: stream_with_folds(room, deep, stream), merged_with_folds)
    return paper


def standing_of(stream):
    """A dict from the stretches of the stream's numbers to how often it has them: what stands ahead of all folds."""
    return added_counts((), [((0, number), many) for day, mark, number, many in stream])


def is_folded(stream, ladder, paper):
    room, deep, counts, total = ladder
    standing = standing_of(stream)
    if things_in(stream) != total or not all([is_stretch(one, deep) for one in standing]):
        return False
    for stretch, many in paper:
        # At what is no stretch nothing stands, so nothing goes up from there.
        if many < 1 or stretch[0] >= deep or many > standing.get(stretch, 0):
            return False
        fold_up(standing, stretch, many)
    return standing == dict(counts)


def folds_towards(stream, ladder):
    """The folds that leave at each stretch no more than it counts, the lowest first."""
    room, deep, pairs, total = ladder
    counts = dict(pairs)
    folds = []
    standing = standing_of(stream)
    for height in range(deep):
        rests = [(stretch, many - counts.get(stretch, 0)) for stretch, many in standing.items()]
        rising = [(stretch, many) for stretch, many in rests if many > 0]
        folds.extend(rising)
        standing = added_counts((), [(parent_of(stretch), many) for stretch, many in rising])
    return folds


def paper_for(stream, ladder):
    # What a stretch lacks can only come from below, so where these folds don't bring it, none do.
    paper = folds_towards(stream, ladder)
    return paper if is_folded(stream, ladder, paper) else None
