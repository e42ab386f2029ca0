"""The errors of the package."""


class ClockworkError(ValueError):
    """The base class of all errors of the package."""


class BadAlmanac(ClockworkError):
    """No almanac; `part` names what is wrong with it."""

    def __init__(self, part):
        super().__init__(f"not an almanac: {part}")
        self.part = part


class BadHour(ClockworkError):
    """No hour that may be asked about."""


class BadStory(ClockworkError):
    """No story of the almanac."""


class BadReadings(ClockworkError):
    """No readings that are allowed or that a story has."""


class BadTable(ClockworkError):
    """No table; `index` is the first wrong state, None for a value of another form."""

    def __init__(self, index):
        super().__init__(f"not a table: {index}")
        self.index = index


class BadNumber(ClockworkError):
    """No number that is allowed there."""


class NoKeeper(ClockworkError):
    """No keeper is right."""


class BadStep(ClockworkError):
    """What may not be done on a bench now."""


class TooMany(ClockworkError):
    """There are more than `most` of what is to be gone through."""

    def __init__(self, most):
        super().__init__(f"more than {most}")
        self.most = most


class BadText(ClockworkError):
    """No such text; `line` is the first wrong line, counted from 0."""

    def __init__(self, line):
        super().__init__(f"wrong line: {line}")
        self.line = line


class BadSigns(ClockworkError):
    """No signs of the almanac."""


class BadBook(ClockworkError):
    """No book; `index` is the first wrong entry, None for a value of another form."""

    def __init__(self, index):
        super().__init__(f"not a book: {index}")
        self.index = index
