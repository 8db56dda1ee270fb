"""The refusals of the program: one class each, all straight under StemError."""


class StemError(ValueError):
    """Any refusal."""


class NoThing(StemError):
    """These are the words of no thing."""


class NoBoards(StemError):
    """There are no boards of this number."""


class Stopped(StemError):
    """The boards were told to stop, and take no further write."""


class NoHouse(StemError):
    """There is no house here."""


class TooMany(StemError):
    """There would be more than a bound lets be."""


class NoPaper(StemError):
    """This account is not let by."""


class NoRow(StemError):
    """This is no row."""


class Lost(StemError):
    """No copy of the block in this cell is right."""

    def __init__(self, number):
        self.number = number


class NoName(StemError):
    """This is no NAME, or nothing is called so."""

    def __init__(self, name):
        self.name = name


class Twice(StemError):
    """Something is there under this name already."""

    def __init__(self, name):
        self.name = name


class Bare(StemError):
    """This stem has no seal, or no origin, that it would need."""

    def __init__(self, name):
        self.name = name


class Grown(StemError):
    """This seal is the origin of another stem."""

    def __init__(self, name):
        self.name = name


class OverBound(StemError):
    """This keeper's share would be above its bound."""

    def __init__(self, name):
        self.name = name


class NoPath(StemError):
    """This is no path, or not one that will do here."""

    def __init__(self, path):
        self.path = path
