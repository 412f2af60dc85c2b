"""Needles for a word, and whether they are enough."""

from needledrop.checks import check_count, check_word, is_integer, is_list
from needledrop.covers import fewest_words, shared_parts
from needledrop.errors import InvalidHoles
from needledrop.masks import choices_up_to, mask_of


def check_needles(code, needles):
    """Raise InvalidHoles if needles are not ascending holes of the code."""
    if not is_list(needles):
        raise InvalidHoles(-1)
    last = -1
    for at, hole in enumerate(needles):
        if not is_integer(hole) or hole not in code or hole <= last:
            raise InvalidHoles(at)
        last = hole


def enough(book, word, needles, k):
    """None if the needles are enough for k, otherwise other words that hold them all."""
    check_word(book, word)
    check_needles(book.code(word), needles)
    check_count(k)
    needed = mask_of(needles)
    parts = [(other, part & needed) for other, part in shared_parts(book, word)]
    holders = fewest_words(parts, needed)
    if holders is None or len(holders) > k:
        return None
    return holders


def lies_in_one(mask, masks):
    """True if all holes of the mask lie in one of the masks."""
    return any([mask & other == mask for other in masks])


def contains_one(mask, masks):
    """True if all holes of one of the masks lie in the mask."""
    return any([mask & other == other for other in masks])


def least_needles(book, word, k):
    """All needles that are enough for k and from which no hole can be left out."""
    check_word(book, word)
    check_count(k)
    held = sorted({whole for _, whole in choices_up_to(shared_parts(book, word), k)})
    code = book.code(word)
    found = {}
    # Smaller needles come first, so those that a hole can be left out of
    # contain some that were found before.
    for needles, mask in choices_up_to([(hole, 1 << hole) for hole in code], len(code)):
        if not lies_in_one(mask, held) and not contains_one(mask, list(found)):
            found[mask] = needles
    return list(found.values())


def private(book, word):
    """The private parts of the word from which no hole can be left out."""
    # A private part lies in the code of no other word: it is enough for 1.
    return least_needles(book, word, 1)
