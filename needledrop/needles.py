"""Needles for a word, and whether they are enough."""

from needledrop.checks import check_count, check_word, is_integer, is_list
from needledrop.covers import few_words, shared_parts
from needledrop.errors import InvalidHoles
from needledrop.masks import choices_up_to, contains_one, lies_in_one, mask_of


def check_needles(code, needles):
    """Raise InvalidHoles if needles are not ascending holes of the code."""
    if not is_list(needles):
        raise InvalidHoles(-1)
    last = -1
    for at, hole in enumerate(needles):
        if not is_integer(hole) or hole not in code or hole <= last:
            raise InvalidHoles(at)
        last = hole


def enough(book, word, needles, k):
    """None if the needles are enough for k, otherwise other words that hold them all."""
    check_word(book, word)
    check_needles(book.code(word), needles)
    check_count(k)
    needed = mask_of(needles)
    parts = [(other, part & needed) for other, part in shared_parts(book, word)]
    return few_words(parts, needed, k)


def least_masks(book, word, k):
    """A dict from the masks of all least needles for the word, in order, to their holes.

    Here k may be 0 too: then one hole is enough.
    """
    held = sorted({whole for _, whole in choices_up_to(shared_parts(book, word), k)})
    code = book.code(word)
    found = {}
    # Smaller needles come first, so those that a hole can be left out of
    # contain some that were found before.
    for needles, mask in choices_up_to([(hole, 1 << hole) for hole in code], len(code)):
        if not lies_in_one(mask, held) and not contains_one(mask, list(found)):
            found[mask] = needles
    return found


def least_needles(book, word, k):
    """All needles that are enough for k and from which no hole can be left out."""
    check_word(book, word)
    check_count(k)
    return list(least_masks(book, word, k).values())


def private(book, word):
    """The private parts of the word from which no hole can be left out."""
    # A private part lies in the code of no other word: it is enough for 1.
    return least_needles(book, word, 1)
