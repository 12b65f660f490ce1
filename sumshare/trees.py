"""Trees of streams: a stream, or a tuple ("merged", one, other) of two trees."""


def streams_in(tree):
    streams = []
    # What waits is a list of its own, so that no depth of a tree is too deep.
    waiting = [tree]
    while len(waiting) > 0:
        here = waiting.pop()
        if isinstance(here, list):
            # A copy each time: one stream may stand at several places.
            streams.append(list(here))
        else:
            waiting.append(here[2])
            waiting.append(here[1])
    return streams


def stream_of(tree):
    things = []
    for stream in streams_in(tree):
        things.extend(stream)
    return things
