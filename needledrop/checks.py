"""Checks of arguments that several files share."""

from needledrop.errors import InvalidCount, InvalidHoles, InvalidWords, UnknownWord

MOST_HOLES = 24
MOST_WORDS = 14
LONGEST_CODE = 8
LONGEST_WORD = 8
LETTERS = "abcdefghijklmnopqrstuvwxyz"


def is_integer(value):
    """True if value is an int that is not a bool."""
    return isinstance(value, int) and not isinstance(value, bool)


def is_list(value):
    """True if value counts as a list: a list or a tuple."""
    return isinstance(value, (list, tuple))


def is_word(value):
    """True if value could be a word of some book."""
    if not isinstance(value, str) or not 1 <= len(value) <= LONGEST_WORD:
        return False
    return all([letter in LETTERS for letter in value])


def wrong_hole(n, holes):
    """The first index at which a list is not ascending holes below n, or None."""
    last = -1
    for at, hole in enumerate(holes):
        if not is_integer(hole) or not last < hole < n:
            return at
        last = hole
    return None


def is_code(n, value):
    """True if value is a code of a book with n holes."""
    if not is_list(value) or not 1 <= len(value) <= LONGEST_CODE:
        return False
    return wrong_hole(n, value) is None


def detached(value):
    """The value, with lists and dicts of its own."""
    # An error keeps what was wrong; a later change of the caller's list
    # must have no effect on it either.
    if isinstance(value, list):
        return [detached(item) for item in value]
    if isinstance(value, tuple):
        return tuple([detached(item) for item in value])
    if isinstance(value, dict):
        return {key: detached(item) for key, item in value.items()}
    return value


def check_word(book, word):
    """Raise UnknownWord if word is not a word of the book."""
    if word not in book:
        raise UnknownWord(detached(word))


def check_words(book, words):
    """Raise what is due if words are not different words of the book."""
    if not is_list(words) or len(words) > MOST_WORDS:
        raise InvalidWords(-1)
    earlier = {}
    for at, word in enumerate(words):
        if not is_word(word) or word in earlier:
            raise InvalidWords(at)
        earlier[word] = True
    # A loop of its own, because a wrong form further behind is due first.
    for word in words:
        check_word(book, word)


def check_holes(book, holes):
    """Raise InvalidHoles if holes are not ascending holes of the book."""
    if not is_list(holes):
        raise InvalidHoles(-1)
    at = wrong_hole(book.n, holes)
    if at is not None:
        raise InvalidHoles(at)


def check_code(book, code):
    """Raise InvalidHoles if code is not a code of the book's holes."""
    if not is_list(code) or not 1 <= len(code) <= LONGEST_CODE:
        raise InvalidHoles(-1)
    check_holes(book, code)


def check_count(k):
    """Raise InvalidCount if k is not a number of words from 1 on."""
    if not is_integer(k) or not 1 <= k <= MOST_WORDS:
        raise InvalidCount()
