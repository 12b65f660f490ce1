"""What a whole number is and what a mark is, told of whatever thing, and whether marks rise."""

LETTERS = "abcdefghijklmnopqrstuvwxyz"
LONGEST_MARK = 8


def is_whole(thing):
    # Python counts True and False among its ints; they are no whole numbers here.
    return isinstance(thing, int) and not isinstance(thing, bool)


def is_whole_from(thing, least):
    return is_whole(thing) and thing >= least


def is_whole_within(thing, least, most):
    return is_whole_from(thing, least) and thing <= most


def is_mark(thing):
    if not isinstance(thing, str) or len(thing) < 1 or len(thing) > LONGEST_MARK:
        return False
    # Not islower: it takes letters beyond z, and figures beside a letter.
    return all([sign in LETTERS for sign in thing])


def is_rising(parts):
    # Each behind a lesser one, so none stands there twice.
    return all([one < other for one, other in zip(parts, parts[1:])])
