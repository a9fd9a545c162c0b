"""The five levels: how a dealing of each looks and puts, and what its spots are."""

from skewhouse.errors import NoLevel


class Loose:

    def word(self):
        return "loose"

    def stand(self, begin, now):
        return now

    def late(self, begin, stamp):
        return False

    def unkept(self):
        return True

    def holds_asks(self):
        return False

    def watches(self):
        return False

    def spots(self, looks):
        return 1

    def look_spot(self, place):
        return None

    def first_spot(self, looks):
        return 0

    def stamps(self, begin, stands, end, early):
        return [end]


class Kept(Loose):

    def word(self):
        return "kept"

    def unkept(self):
        return False

    def spots(self, looks):
        return looks + 1

    def look_spot(self, place):
        return place

    def first_spot(self, looks):
        # The keep, which stands behind the spots of all looks.
        return looks

    def stamps(self, begin, stands, end, early):
        return stands + [end]


class Make(Kept):

    def word(self):
        return "make"

    def stand(self, begin, now):
        return begin

    def late(self, begin, stamp):
        return stamp > begin

    def spots(self, looks):
        return 2

    def look_spot(self, place):
        return 0

    def first_spot(self, looks):
        return 0

    def stamps(self, begin, stands, end, early):
        return [begin, end]


class Watch(Make):

    def word(self):
        return "watch"

    def watches(self):
        return True

    def spots(self, looks):
        return 1

    def stamps(self, begin, stands, end, early):
        return [begin if early else end]


class Hold(Kept):

    def word(self):
        return "hold"

    def holds_asks(self):
        return True

    def spots(self, looks):
        return 1

    def look_spot(self, place):
        return 0

    def first_spot(self, looks):
        return 0

    def stamps(self, begin, stands, end, early):
        return [end]


def level_of(word):
    for level in [Loose(), Kept(), Make(), Watch(), Hold()]:
        if level.word() == word:
            return level
    raise NoLevel(f"no level has the word {word!r}")
