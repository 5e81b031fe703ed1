"""The errors of the package: SumError and its direct subclasses."""


def copy_of(thing):
    """Any object with new lists, tuples and dicts, so that a later change of a list inside does not reach it."""
    if type(thing) is list:
        return [copy_of(item) for item in thing]
    if type(thing) is tuple:
        return tuple([copy_of(item) for item in thing])
    if type(thing) is dict:
        return {key: copy_of(thing[key]) for key in thing}
    return thing


class SumError(ValueError):
    """Each error of the package is one of these."""


class InvalidSums(SumError):
    """The sums, or the other sums, are not valid."""


class InvalidBounds(SumError):
    """The bounds of the sums are not valid."""


class InvalidNumbers(SumError):
    """The numbers of the days are not valid."""


class InvalidLength(SumError):
    """The length, or the other length, is not valid."""


class InvalidMost(SumError):
    """The most is not valid."""


class InvalidDay(SumError):
    """A day is not valid."""


class InvalidDays(SumError):
    """A list of days is not valid."""


class InvalidWay(SumError):
    """A way is not valid."""


class InvalidIndex(SumError):
    """An index is not valid."""


class InvalidNumber(SumError):
    """A number, or a count, is not valid."""


class NothingToUndo(SumError):
    """There is no sum that was added last."""


# Each error below passes its base class one string for each argument: Python
# calls the class with these when it copies an error, and a list that was passed
# may change later, so that it is not kept there itself.


class Impossible(SumError):
    """There is no way; word and days tell why."""

    def __init__(self, word, days):
        super().__init__(f"{word}", f"{days}")
        self.word = word
        self.days = copy_of(days)


class Disagree(SumError):
    """No list of integers has all the sums; word and days tell why."""

    def __init__(self, word, days):
        super().__init__(f"{word}", f"{days}")
        self.word = word
        self.days = copy_of(days)


class TooShort(SumError):
    """There are fewer days than are needed; days tells how many are."""

    def __init__(self, days):
        super().__init__(f"{days}")
        self.days = copy_of(days)


class InvalidText(SumError):
    """A text is not one of a value; place is the first word that cannot stand there."""

    def __init__(self, place):
        super().__init__(f"{place}")
        self.place = copy_of(place)
