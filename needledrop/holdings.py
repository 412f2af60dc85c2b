"""What a drawer holds, and what deeds make of it.

A holding is a tuple of a book, a dict from the numbers of the cards, in
ascending order, to their words, and the last number. It is never changed: a
deed makes another one, so a drawer can go back to those before it.
"""

from needledrop.books import false_words
from needledrop.checks import check_code, check_word, check_words, detached, is_integer
from needledrop.errors import InvalidCard, LimitExceeded, UnknownWord

MOST_CARDS = 60
GREATEST_NUMBER = 1000000000


def ordered_words(book, words):
    """The words of a card in ascending order."""
    check_words(book, words)
    return tuple(sorted(words))


def words_on(holding, number):
    """The words of the card with this number."""
    _, borne, _ = holding
    if not is_integer(number) or number not in borne:
        raise InvalidCard(detached(number))
    return borne[number]


def with_card(holding, words):
    """The holding with one more card."""
    book, borne, last = holding
    ordered = ordered_words(book, words)
    if len(borne) >= MOST_CARDS:
        raise LimitExceeded("cards")
    if last >= GREATEST_NUMBER:
        raise LimitExceeded("number")
    return book, {**borne, last + 1: ordered}, last + 1


def with_words(holding, number, words):
    """The holding in which the card bears these words."""
    words_on(holding, number)
    book, borne, last = holding
    return book, {**borne, number: ordered_words(book, words)}, last


def without_card(holding, number):
    """The holding without the card."""
    words_on(holding, number)
    book, borne, last = holding
    return book, {other: words for other, words in borne.items() if other != number}, last


def with_book(holding, book):
    """The holding in which the cards are notched by this book."""
    _, borne, last = holding
    lacking = [word for words in borne.values() for word in words if word not in book]
    if len(lacking) > 0:
        raise UnknownWord(min(lacking))
    return book, borne, last


def with_code(holding, word, code):
    """The holding in whose book the word has this code."""
    book, borne, last = holding
    check_word(book, word)
    check_code(book, code)
    return book.with_word(word, code), borne, last


def behind(holding, deed):
    """The holding behind a deed, and what the deed answers."""
    kind = deed[0]
    if kind == "put":
        changed = with_card(holding, deed[1])
        _, _, last = changed
        return changed, last
    if kind == "set":
        return with_words(holding, deed[1], deed[2]), None
    if kind == "strike":
        return without_card(holding, deed[1]), None
    if kind == "recode":
        return with_code(holding, deed[1], deed[2]), None
    if kind == "book":
        return with_book(holding, deed[1]), None
    return behind_all(holding, deed[1])


def behind_all(holding, deeds):
    """The holding behind all the deeds, and the list of what they answer."""
    told = []
    for deed in deeds:
        holding, answer = behind(holding, deed)
        told.append(answer)
    return holding, told


def reported(holding):
    """Tuples of the number of each card, its words, and the words that it shows falsely."""
    book, borne, _ = holding
    return [(number, list(words), false_words(book, words)) for number, words in borne.items()]
