"""The errors of the program."""


class CardError(Exception):
    """The base class of all errors of the program."""


class InvalidBook(CardError):
    """The number of holes, the codes, or one of them, do not make a book."""

    def __init__(self, why, at):
        self.why = why
        self.at = at


class InvalidHoles(CardError):
    """Something is no list of ascending holes."""

    def __init__(self, at):
        self.at = at


class InvalidWords(CardError):
    """Something is no list of different words."""

    def __init__(self, at):
        self.at = at


class UnknownWord(CardError):
    """Something is no word of the book."""

    def __init__(self, word):
        self.word = word


class InvalidCount(CardError):
    """Something is no number of the kind that is wanted."""


class InvalidQuestion(CardError):
    """The node at this path of a question is wrong."""

    def __init__(self, path):
        self.path = path


class InvalidCard(CardError):
    """Something is not the number of a card."""

    def __init__(self, number):
        self.number = number


class InvalidText(CardError):
    """A text cannot be read."""

    def __init__(self, at):
        self.at = at


class LimitExceeded(CardError):
    """An answer or an argument is larger than a limit."""

    def __init__(self, limit):
        self.limit = limit


class NothingLeft(CardError):
    """What a call needs is not there."""

    def __init__(self, what):
        self.what = what
