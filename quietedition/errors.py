"""The errors of the package, each with the fields that it is made with."""


def copied(thing):
    """The value with each list in it made anew, as an error may keep any value that a caller passed."""
    if isinstance(thing, list):
        return [copied(part) for part in thing]
    if isinstance(thing, tuple):
        return tuple([copied(part) for part in thing])
    return thing


class QuietError(ValueError):
    """The base of all errors that the document names."""


class BadText(QuietError):
    """The text of an edition or of a unit is refused at the line `row`."""

    def __init__(self, row, cause):
        super().__init__(f"line {row}: {cause}")
        self.row = row
        self.cause = cause


class BadClient(QuietError):
    """The unit or text `at` of a client is refused."""

    def __init__(self, at, row, cause):
        super().__init__(f"unit {at}, line {row}: {cause}")
        self.at = at
        self.row = row
        self.cause = cause


class BadManner(QuietError):
    """Something is not the name of a manner."""

    def __init__(self, name):
        super().__init__(f"no manner: {name!r}")
        self.name = copied(name)


class BadMoment(QuietError):
    """Something is not a moment."""

    def __init__(self, moment):
        super().__init__(f"no moment: {moment!r}")
        self.moment = copied(moment)


class NotAssembled(QuietError):
    """A unit names a number that the edition does not have."""

    def __init__(self, unit, name):
        super().__init__(f"unit {unit}: no number {name}")
        self.unit = unit
        self.name = name


class NotLinked(QuietError):
    """An edition refuses to link some objects."""

    def __init__(self, cause, unit, name):
        super().__init__(f"not linked: {cause}, unit {unit!r}, name {name!r}")
        self.cause = cause
        self.unit = unit
        self.name = name


class NotLoaded(QuietError):
    """An edition refuses to load a linked client."""

    def __init__(self, cause, unit, name):
        super().__init__(f"not loaded: {cause}, unit {unit!r}, name {name!r}")
        self.cause = cause
        self.unit = unit
        self.name = name


class BadRenaming(QuietError):
    """The pair `at` does not belong to a renaming."""

    def __init__(self, at):
        super().__init__(f"no renaming: pair {at}")
        self.at = at


class TooMany(QuietError):
    """A question is out of the bounds of the package."""

    def __init__(self, what):
        super().__init__(f"too many {what}")
        self.what = what


class BadHouse(QuietError):
    """The edition `at` does not belong to a house."""

    def __init__(self, at):
        super().__init__(f"no house: edition {at}")
        self.at = at


class BadMend(QuietError):
    """The mend `at`, or the text behind that many mends, is refused."""

    def __init__(self, at, cause):
        super().__init__(f"mend {at}: {cause}")
        self.at = at
        self.cause = cause
