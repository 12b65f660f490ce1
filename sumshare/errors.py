"""The refusals of the program, one class for each."""


class ShareError(ValueError):
    pass


class NoRoom(ShareError):
    pass


class NoShare(ShareError):
    pass


class TooCoarse(ShareError):
    pass


class NoNumber(ShareError):
    pass


class NoPlace(ShareError):
    pass


class NoMark(ShareError):
    pass


class NoCells(ShareError):
    pass


class NoDays(ShareError):
    pass


class NoFrame(ShareError):
    pass


class NoParcel(ShareError):
    pass


class Twice(ShareError):
    def __init__(self, alike):
        ShareError.__init__(self, f"parcels that both have: {alike!r}")
        # A copy, so that what the maker does to its list later is not seen here.
        self.alike = list(alike)


class NoText(ShareError):
    def __init__(self, line):
        ShareError.__init__(self, f"not so written, by line {line}")
        self.line = line


class NoRow(ShareError):
    pass


class NoName(ShareError):
    pass
