"""Streams that fit a ladder, and streams near to them, and the dealing of their things by hand."""

from tests.ladder_samples import drawn_ladder, plain_settled
from tests.place_samples import dealt
from tests.samples import MANY_WORDS, THIRTY


def can_be_dealt(stream, ladder):
    """Whether they can: each goes to the shortest stretch with its number that lacks some yet."""
    room, deep, counts, total = ladder
    lacking = dict(counts)
    for day, mark, number, many in stream:
        for height in range(deep + 1):
            stretch = (height, number // 2 ** height)
            part = min(many, lacking.get(stretch, 0))
            many = many - part
            if part > 0:
                lacking[stretch] = lacking[stretch] - part
        if many > 0:
            return False
    return not any(lacking.values())


def stream_with(source, numbers):
    """A stream of the numbers, tuples (number, how often), in any order, of whatever days and marks."""
    days = (0, 1, source.randrange(50), THIRTY)
    stream = [(source.choice(days), source.choice(MANY_WORDS), number, many) for number, many in numbers]
    return source.sample(stream, len(stream))


def drawn_fit(source, deepest):
    """A ladder, settled or not, at most so deep, and a stream that fits it."""
    ladder = drawn_ladder(source, source.randrange(1, 21), source.randint(1, deepest))
    if source.randrange(3) == 0:
        ladder = plain_settled(ladder)[0]
    return ladder, stream_with(source, dealt(source, ladder))


def another_number(source, deep, number):
    end = 2 ** deep
    return source.choice((
        max(number - 1, 0), number + 1, number ^ 2 ** source.randrange(deep), source.randrange(end), end - 1, 0,
        end + source.randrange(2),
    ))


def near_stream(source, ladder, stream):
    """The stream with one thing of it changed."""
    if not stream:
        return [(0, "a", 0, 1)]
    stream = list(stream)
    day, mark, number, many = stream.pop(source.randrange(len(stream)))
    change = source.randrange(8)
    if change == 0:
        stream.append((day, mark, number, many + 1))
    elif change == 1:
        stream.append((day, mark, number, max(many - 1, 1)))
    elif change == 2:
        stream.append((day, mark, another_number(source, ladder[1], number), many))
    elif change > 3:
        # One of them, or some, get another number, so that there are as many as before.
        part = source.choice((1, many, source.randint(1, many)))
        stream.append((day, mark, another_number(source, ladder[1], number), part))
        if part < many:
            stream.append((day, mark, number, many - part))
    return stream
