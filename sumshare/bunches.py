"""Papers of tallies: bunches of marks from which as much was let go at once."""

from sumshare.cuts import cut_of
from sumshare.kinds import is_mark, is_rising, is_whole_from
from sumshare.tallies import added_sums, empty_tally, is_made_as_tally, merged_tally, thing_tally
from sumshare.things import things_in
from sumshare.trees import grown


def bunches_of(one, other):
    sums = added_sums(one, other)
    cut = cut_of(one[0], sums)
    if cut == 0:
        return []
    bunches = []
    ahead = 0
    for value in sorted(set([min(times, cut) for times in sums.values()])):
        marks = [mark for mark in sorted(sums) if sums[mark] >= value]
        bunches.append((tuple(marks), value - ahead))
        ahead = value
    return bunches


def merged_with_paper(one, other):
    """Of two tuples (tally, paper) the one of both: bunches need the tallies as they were ahead of merging."""
    tally, paper = one
    late_tally, late_paper = other
    return (merged_tally(tally, late_tally), paper + late_paper + bunches_of(tally, late_tally))


def stream_with_paper(room, stream):
    kept = (empty_tally(room), [])
    for thing in stream:
        kept = merged_with_paper(kept, (thing_tally(room, thing), []))
    return kept


def tally_paper(room, tree):
    tally, paper = grown(tree, lambda stream: stream_with_paper(room, stream), merged_with_paper)
    return paper


def is_bunch(thing, room):
    if not isinstance(thing, tuple) or len(thing) != 2:
        return False
    marks, many = thing
    if not isinstance(marks, tuple) or not all([is_mark(mark) for mark in marks]):
        return False
    return is_rising(marks) and len(marks) > room and is_whole_from(many, 1)


def is_paper(thing, room):
    return isinstance(thing, list) and all([is_bunch(one, room) for one in thing])


def times_in(stream):
    """A dict from the marks of the stream to how often they stand in it."""
    times = {}
    for day, mark, number, many in stream:
        times[mark] = times.get(mark, 0) + many
    return times


def times_told(counts, paper):
    """A dict from marks to what their counts and their bunches come to."""
    times = dict(counts)
    for marks, many in paper:
        for mark in marks:
            times[mark] = times.get(mark, 0) + many
    return times


def is_shown(stream, tally, paper):
    if not is_made_as_tally(tally) or not is_paper(paper, tally[0]):
        return False
    room, counts, let, total = tally
    if sum([many for marks, many in paper]) != let or things_in(stream) != total:
        return False
    # Neither dict holds a 0, so a mark that stands in one alone makes them unlike.
    return times_in(stream) == times_told(counts, paper)
