"""The errors of the package: point [3]."""


class SayError(ValueError):
    """What all errors of the package stand under; never raised itself."""


class InvalidNumber(SayError):
    """An integer is not as it must be."""

    def __init__(self, value):
        self.value = value


class InvalidMatrix(SayError):
    """A matrix is not as it must be."""

    def __init__(self, value):
        self.value = value


class InvalidAudience(SayError):
    """A part of an audience is wrong at a place."""

    def __init__(self, part, place):
        self.part = part
        self.place = place


class InvalidNet(SayError):
    """A part of a net is wrong at a place."""

    def __init__(self, part, place):
        self.part = part
        self.place = place


class InvalidLot(SayError):
    """A lot is not as it must be."""

    def __init__(self, value):
        self.value = value


class InvalidWord(SayError):
    """A word is not as it must be."""

    def __init__(self, value):
        self.value = value


class InvalidWords(SayError):
    """A tuple of words is not as it must be."""

    def __init__(self, value):
        self.value = value


class InvalidSignals(SayError):
    """The signals of a broadcast are not as they must be."""

    def __init__(self, value):
        self.value = value


class InvalidLosses(SayError):
    """The losses of a round are not as they must be."""

    def __init__(self, value):
        self.value = value


class InvalidDeed(SayError):
    """A deed is not as it must be."""

    def __init__(self, value):
        self.value = value


class InvalidText(SayError):
    """A text is wrong from a place on."""

    def __init__(self, text, at):
        self.text = text
        self.at = at


class InvalidLine(SayError):
    """A line is wrong from a place on."""

    def __init__(self, line, at):
        self.line = line
        self.at = at


class UnknownWord(SayError):
    """A line begins with a word that is none of the desk's."""

    def __init__(self, word):
        self.word = word


class TooMany(SayError):
    """There are too many of something."""

    def __init__(self, what):
        self.what = what


class Undefined(SayError):
    """There is no such thing."""

    def __init__(self, what):
        self.what = what


class NothingToUndo(SayError):
    """There is no deed to undo or to do again."""

    def __init__(self, word):
        self.word = word
