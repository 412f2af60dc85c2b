"""How likely false words are."""

from math import gcd

from needledrop.checks import check_count, check_word
from needledrop.covers import shared_parts
from needledrop.errors import LimitExceeded
from needledrop.masks import choices_by_size, coded_words, mask_of


def fraction(part, whole):
    """Part of whole as a fraction in lowest terms."""
    shared = gcd(part, whole)
    return (part // shared, whole // shared)


def false_share(book, word, k):
    """The share of covers of the word among all sets of k other words."""
    check_word(book, word)
    check_count(k)
    parts = shared_parts(book, word)
    if len(parts) < k:
        raise LimitExceeded("words")
    needed = mask_of(book.code(word))
    masks = [mask for _, mask in choices_by_size(parts, k)[k]]
    return fraction(masks.count(needed), len(masks))


def falling(codes, mask):
    """How many of the codes lie in the mask."""
    return len([code for code in codes if code & mask == code])


def false_numbers(book, k):
    """For each card of exactly k words, how many words it shows falsely."""
    check_count(k)
    coded = coded_words(book)
    if len(coded) < k:
        raise LimitExceeded("words")
    codes = [code for _, code in coded]
    # A card shows all words that it bears, so those beyond k are false.
    return [falling(codes, mask) - k for _, mask in choices_by_size(coded, k)[k]]


def mean_false(book, k):
    """The mean number of words that a card of exactly k words shows falsely."""
    numbers = false_numbers(book, k)
    return fraction(sum(numbers), len(numbers))


def card_share(book, k):
    """The share of cards without false words among all cards of exactly k words."""
    numbers = false_numbers(book, k)
    return fraction(numbers.count(0), len(numbers))
