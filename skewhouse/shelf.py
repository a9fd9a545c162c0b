"""The shelf: of each key all its makes, so that what was there at any stamp can be told."""

from skewhouse.stretches import inside

START = 0
NO_MAKE = (0, 0, None)


class Shelf:

    def __init__(self, rows):
        # Under each key the list of its makes (stamp, dealing, value), in the order in which they were put.
        self.makes = {}
        for key, value in rows.items():
            self.makes[key] = [(0, START, value)]

    def put(self, stamp, dealing, drafts):
        for key, value in drafts.items():
            self.makes.setdefault(key, []).append((stamp, dealing, value))

    def make(self, key, stamp):
        for found in reversed(self.makes.get(key, [])):
            if found[0] <= stamp:
                return found
        return NO_MAKE

    def newest(self, key):
        makes = self.makes.get(key, [NO_MAKE])
        return makes[-1]

    def rows(self, low, high, stamp):
        return self.rows_of(self.known(low, high), stamp)

    def there(self, stamp):
        return self.rows_of(sorted(self.makes), stamp)

    def touched(self, low, high):
        # First rows come ahead of all puts, so a key was put where its newest make is not the start's.
        return [key for key in self.known(low, high) if self.newest(key)[1] != START]

    def makers(self, key):
        return [found[1] for found in self.makes.get(key, []) if found[1] != START]

    def known(self, low, high):
        return [key for key in sorted(self.makes) if inside(key, low, high)]

    def rows_of(self, keys, stamp):
        found = [(key, self.make(key, stamp)[2]) for key in keys]
        return [row for row in found if row[1] is not None]
