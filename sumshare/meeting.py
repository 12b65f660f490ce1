"""Trees that meet the bounds of a tally: so nothing narrower could be told by it."""

from sumshare.kinds import LETTERS
from sumshare.tallies import count_in, uncounted_in


def word_at(place):
    """A mark for each place from 0 on, no two alike."""
    word = LETTERS[place % 26]
    while place >= 26:
        place = place // 26
        word = LETTERS[place % 26] + word
    return word


def spare_marks(tally, mark):
    """Marks that are neither the one asked for nor counted, as many as two tallies have room for."""
    room, counts, let, total = tally
    taken = dict(counts)
    taken[mark] = True
    words = [word_at(place) for place in range(2 * room + len(taken))]
    return [word for word in words if word not in taken]


def let_go(tally):
    """How often marks without a count stand there, so that one cut of let leaves just this tally."""
    room, counts, let, total = tally
    # With the counted marks these are room and one that reach the cut, so it is let and no less.
    times = [let for place in range(room + 1 - len(counts))]
    rest = uncounted_in(tally) - (room + 1) * let
    for place in range(room - 1):
        part = min(rest, let)
        times.append(part)
        rest = rest - part
    return [many for many in times if many > 0]


def plain_stream(sums):
    return [(0, mark, 0, many) for mark, many in sums]


def tree_by_one_cut(tally, words):
    """A tree of the tally, in which the counted marks and the first of the words meet their upper bounds."""
    room, counts, let, total = tally
    sums = [(mark, count + let) for mark, count in counts] + list(zip(words, let_go(tally)))
    # Neither stream has more marks than room, so all is let go at once where they are merged.
    return ("merged", plain_stream(sums[:room]), plain_stream(sums[room:]))


def without(tally, mark):
    room, counts, let, total = tally
    left = tuple([pair for pair in counts if pair[0] != mark])
    return (room, left, let, total - count_in(tally, mark))


def least_tree(tally, mark):
    words = spare_marks(tally, mark)
    count = count_in(tally, mark)
    if count == 0:
        return tree_by_one_cut(tally, words)
    # The mark comes behind the cut, where there is room for it again: nothing of it is let go.
    return ("merged", tree_by_one_cut(without(tally, mark), words), plain_stream([(mark, count)]))


def most_tree(tally, mark):
    words = spare_marks(tally, mark)
    if count_in(tally, mark) == 0:
        words = [mark] + words
    return tree_by_one_cut(tally, words)


def trees_for(tally, mark):
    return (least_tree(tally, mark), most_tree(tally, mark))
