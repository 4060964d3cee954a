"""The keeper of what grows on one bed: tiles put and taken back, step by step (point 10)."""

from stickytiles.beds import is_place
from stickytiles.errors import NoKind, NoPlace, NotHeld, NothingBack, Taken
from stickytiles.holding import growings_at, kinds_by_place, names_facing, places_around


class Grow:
    def __init__(self, bed):
        self.bed = bed
        self.strengths = dict(bed[0][1])
        self.kinds = kinds_by_place(bed[2])
        self.laid = []
        # The growings of each place that has some, kept since a tile changes those at its place and around it alone.
        self.ready = {}
        for x in range(bed[1][0]):
            for y in range(bed[1][1]):
                self.look_at((x, y))

    def look_at(self, place):
        self.ready.pop(place, None)
        if place not in self.kinds and is_place(self.bed, place):
            names = names_facing(self.bed, self.kinds, place)
            found = growings_at(self.bed, self.strengths, names, place)
            if found:
                self.ready[place] = found

    def look_around(self, place):
        self.look_at(place)
        for near in places_around(place):
            self.look_at(near)

    def lay(self, tile):
        self.laid.append(tile)
        self.kinds[tile[:2]] = tile[2]
        self.look_around(tile[:2])

    def put(self, x, y, kind):
        place = (x, y)
        if not is_place(self.bed, place):
            raise NoPlace()
        if place in self.kinds:
            raise Taken()
        if not 0 <= kind < len(self.bed[0][2]):
            raise NoKind()
        if (x, y, kind) not in self.ready.get(place, []):
            raise NotHeld()
        self.lay((x, y, kind))

    def on(self):
        if not self.ready:
            return None
        tile = self.ready[min(self.ready)][0]
        self.lay(tile)
        return tile

    def back(self):
        if not self.laid:
            raise NothingBack()
        tile = self.laid.pop()
        self.kinds.pop(tile[:2])
        self.look_around(tile[:2])
        return tile

    def standing(self):
        return tuple(sorted(list(self.bed[2]) + self.laid))

    def row(self):
        return tuple(self.laid)

    def growings(self):
        found = []
        for place in sorted(self.ready):
            found.extend(self.ready[place])
        return tuple(found)
