"""Which marks are above a share of the stream, surely or perhaps, by a tally."""

from sumshare.errors import NoShare, TooCoarse


def frequent(tally, top, bottom):
    room, counts, let, total = tally
    if top < 0 or top >= bottom:
        raise NoShare("no share: the top is below 0 or not below the bottom")
    bar = top * total
    if let * bottom > bar:
        raise TooCoarse("a mark that isn't kept might be above the share")
    sure = [mark for mark, count in counts if count * bottom > bar]
    perhaps = [mark for mark, count in counts if count * bottom <= bar and (count + let) * bottom > bar]
    return (sure, perhaps)
