"""The refusals: each a class of its own, right under SkewError."""


class SkewError(ValueError):
    pass


class NoNumber(SkewError):
    pass


class NoDeed(SkewError):
    pass


class NoProgram(SkewError):
    pass


class NoLevel(SkewError):
    pass


class NoDealing(SkewError):
    pass


class NoHistory(SkewError):
    pass


class TooMany(SkewError):
    pass


class NoRow(SkewError):
    pass


class Waits(SkewError):

    def __init__(self, dealing, others):
        # No number stands in the words, here and at Broken: it may have too many figures for str.
        SkewError.__init__(self, "a dealing must wait")
        self.dealing = dealing
        # A copy, so that what the asker does to the list later doesn't show here.
        self.others = list(others)


class Broken(SkewError):

    def __init__(self, dealing, why):
        SkewError.__init__(self, "a dealing is broken off")
        self.dealing = dealing
        self.why = why
