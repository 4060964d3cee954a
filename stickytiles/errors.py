"""The refusals: each stands straight under TileError, none under another."""


class TileError(ValueError):
    pass


class NoGrowing(TileError):
    def __init__(self, number):
        self.number = number


class NoText(TileError):
    def __init__(self, line):
        self.line = line


class NoPlace(TileError):
    pass


class Taken(TileError):
    pass


class NoKind(TileError):
    pass


class NotHeld(TileError):
    pass


class NothingBack(TileError):
    pass


class NotSure(TileError):
    pass


class TooMany(TileError):
    pass


class NotFramed(TileError):
    pass


class NoLine(TileError):
    pass
