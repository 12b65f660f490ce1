"""Things, streams, and plain counts of streams."""

from sumshare.kinds import is_mark, is_whole_from


def is_thing(thing):
    if not isinstance(thing, tuple) or len(thing) != 4:
        return False
    day, mark, number, many = thing
    return is_whole_from(day, 0) and is_mark(mark) and is_whole_from(number, 0) and is_whole_from(many, 1)


def is_stream(thing):
    return isinstance(thing, list) and all([is_thing(one) for one in thing])


def things_in(stream):
    return sum([many for day, mark, number, many in stream])


def times_of(stream, mark):
    return sum([many for day, word, number, many in stream if word == mark])


def at_most(stream, x):
    return sum([many for day, mark, number, many in stream if number <= x])


def sum_of(stream):
    return sum([number * many for day, mark, number, many in stream])


def unlike_in(stream):
    return len(set([mark for day, mark, number, many in stream]))


def of_days(stream, a, b):
    return [thing for thing in stream if a <= thing[0] and thing[0] <= b]
