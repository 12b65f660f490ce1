"""What fits a ladder: streams whose things can be dealt to its stretches, to each as many as it counts."""

from sumshare.folds import paper_for
from sumshare.places import highest_places, lowest_places


def fits(stream, ladder):
    # Folds bring each thing to a stretch that has its number, and wherever things can be dealt so, there are folds.
    return paper_for(stream, ladder) is not None


def stream_at(places):
    return [(0, "a", number, count) for number, count in places]


def lowest(ladder):
    return stream_at(lowest_places(ladder))


def highest(ladder):
    return stream_at(highest_places(ladder))
