"""The refusals: each stands straight beneath GroveError, none beneath another."""


class GroveError(ValueError):
    pass


class NoTree(GroveError):
    pass


class NoTaste(GroveError):
    pass


class TooMany(GroveError):
    pass


class NoText(GroveError):
    pass


class NoName(GroveError):
    pass


class NoRow(GroveError):
    pass
