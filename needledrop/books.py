"""Code books, and what falls at open holes."""

from needledrop.checks import MOST_HOLES, MOST_WORDS, check_holes, check_word, check_words
from needledrop.checks import detached, is_code, is_integer, is_word
from needledrop.errors import InvalidBook


class Book:
    """Words with their codes, which never change."""

    def __init__(self, n, codes):
        check_book(n, codes)
        self.n = n
        self._codes = {word: tuple(codes[word]) for word in sorted(codes)}

    def words(self):
        """The words in ascending order."""
        return list(self._codes)

    def code(self, word):
        """The holes of a word."""
        check_word(self, word)
        return self._codes[word]

    def codes(self):
        """A dict from the words, in ascending order, to their codes."""
        return {word: code for word, code in self._codes.items()}

    def with_word(self, word, code):
        """A book in which the word has this code."""
        if not is_word(word):
            raise InvalidBook("word", detached(word))
        if not is_code(self.n, code):
            raise InvalidBook("code", word)
        codes = self.codes()
        codes[word] = code
        # The new book itself raises the error that one word is too many.
        return Book(self.n, codes)

    def without(self, word):
        """A book that lacks the word."""
        check_word(self, word)
        codes = self.codes()
        del codes[word]
        return Book(self.n, codes)

    def __eq__(self, other):
        return isinstance(other, Book) and self.n == other.n and self._codes == other._codes

    def __contains__(self, thing):
        # Only strings are looked up: other things need not be possible keys.
        return isinstance(thing, str) and thing in self._codes

    def __len__(self):
        return len(self._codes)

    def __iter__(self):
        return iter(self._codes)


def check_book(n, codes):
    """Raise InvalidBook if n and codes do not make a book."""
    if not is_integer(n) or not 1 <= n <= MOST_HOLES:
        raise InvalidBook("holes", None)
    if not isinstance(codes, dict) or len(codes) > MOST_WORDS:
        raise InvalidBook("codes", None)
    for word, code in codes.items():
        if not is_word(word):
            raise InvalidBook("word", word)
        if not is_code(n, code):
            raise InvalidBook("code", word)


def within(code, holes):
    """True if all holes of the code are among the holes."""
    return all([hole in holes for hole in code])


def notches(book, words):
    """The open holes of a card that bears the words."""
    check_words(book, words)
    return tuple(sorted({hole for word in words for hole in book.code(word)}))


def falls(book, holes, word):
    """True if the word falls at the holes."""
    check_holes(book, holes)
    check_word(book, word)
    return within(book.code(word), holes)


def shown(book, holes):
    """The words that fall at the holes, in ascending order."""
    check_holes(book, holes)
    return [word for word in book.words() if within(book.code(word), holes)]


def false_words(book, words):
    """The words that a card with these words shows without bearing them."""
    return [word for word in shown(book, notches(book, words)) if word not in words]
