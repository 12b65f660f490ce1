"""Trees of streams: a stream, or a tuple ("merged", one, other) of two trees."""


def steps_in(tree):
    """The streams of the tree, in order, and a None for each merging, behind what it merges."""
    steps = []
    # What waits is a list of its own, so that no depth of a tree is too deep.
    waiting = [tree]
    while len(waiting) > 0:
        here = waiting.pop()
        if here is None or isinstance(here, list):
            steps.append(here)
        else:
            waiting.extend([None, here[2], here[1]])
    return steps


def streams_in(tree):
    # A copy each time: one stream may stand at several places.
    return [list(step) for step in steps_in(tree) if step is not None]


def stream_of(tree):
    things = []
    for stream in streams_in(tree):
        things.extend(stream)
    return things


def grown(tree, of_stream, of_two):
    """What is kept of a tree, by what is kept of a stream, and by the merging of what is kept of two trees."""
    kept = []
    for step in steps_in(tree):
        if step is None:
            other = kept.pop()
            one = kept.pop()
            kept.append(of_two(one, other))
        else:
            kept.append(of_stream(step))
    return kept.pop()
