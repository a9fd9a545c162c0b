"""The refusals: each a class of its own, right under SkewError."""


class SkewError(ValueError):
    pass


class NoNumber(SkewError):
    pass


class NoDeed(SkewError):
    pass


class NoProgram(SkewError):
    pass


class NoLevel(SkewError):
    pass


class NoDealing(SkewError):
    pass


class NoHistory(SkewError):
    pass


class TooMany(SkewError):
    pass


class NoRow(SkewError):
    pass


class Waits(SkewError):

    def __init__(self, dealing, others):
        SkewError.__init__(self, f"dealing {dealing} must wait")
        self.dealing = dealing
        # A copy, so that what the asker does to the list later doesn't show here.
        self.others = list(others)


class Broken(SkewError):

    def __init__(self, dealing, why):
        # The reason is left out of the words: its numbers may have too many figures for str.
        SkewError.__init__(self, f"dealing {dealing} is broken off")
        self.dealing = dealing
        self.why = why
