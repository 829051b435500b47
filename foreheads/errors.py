"""The errors of the package; each keeps the very arguments that it is made of."""


class KnowError(ValueError):
    """The base class of the errors of this package that are no lookups."""


class InvalidCrowds(KnowError):
    """Something is no set of crowds; the word tells which part of it is wrong."""

    def __init__(self, word):
        self.word = word


class InvalidSaying(KnowError):
    """Something is no saying; the word tells which part of it is wrong."""

    def __init__(self, word):
        self.word = word


class InvalidTalk(KnowError):
    """Something is no row or no talk; the word tells which part of it is wrong."""

    def __init__(self, word):
        self.word = word


class InvalidLine(KnowError):
    """Something is no line; the word tells which part of it is wrong."""

    def __init__(self, word):
        self.word = word


class InvalidText(KnowError):
    """A text cannot be read; `at` tells where it is wrong."""

    def __init__(self, at):
        self.at = at


class InvalidCommand(KnowError):
    """Something is no command of a desk."""


class Untrue(KnowError):
    """Something is said that does not hold; `at` is the number of its row."""

    def __init__(self, at):
        self.at = at


class Refused(KnowError):
    """One of several rows cannot be done; `at` is its index."""

    def __init__(self, at):
        self.at = at


class NoRow(IndexError):
    """A talk has no row with the number `at`."""

    def __init__(self, at):
        self.at = at


class NoCrowd(KeyError):
    """Something is asked of a crowd that is not there."""

    def __init__(self, crowd):
        self.crowd = crowd
