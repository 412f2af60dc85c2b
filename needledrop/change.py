"""Which words and holes can be added to a book or left out of it."""

from needledrop.books import Book
from needledrop.checks import check_code, check_count, check_holes, is_integer
from needledrop.covers import few_words, shared_parts
from needledrop.errors import InvalidCount, InvalidWords, LimitExceeded, NothingLeft
from needledrop.masks import choices_by_size, choices_up_to, coded_words, contains_one, lies_in_one, mask_of
from needledrop.masks import words_within
from needledrop.needles import least_masks

LARGEST_SIZE = 4
MOST_CODED_HOLES = 16
MOST_CHOSEN_HOLES = 12
MOST_CHOSEN_WORDS = 10


def may_add(book, code, k):
    """None if the book with a new word of this code is strong for k, otherwise a word and its cover."""
    check_code(book, code)
    check_count(k)
    names = book.words() + [None]
    masks = [mask for _, mask in coded_words(book)] + [mask_of(code)]
    for at, needed in enumerate(masks):
        # Places instead of names, because None has no place in an order.
        parts = [(other, mask & needed) for other, mask in enumerate(masks) if other != at]
        cover = few_words(parts, needed, k)
        if cover is not None:
            return names[at], [names[other] for other in cover]
    return None


def guards(book, k):
    """For each word the masks of its least needles for k; here k may be 0."""
    return [list(least_masks(book, word, k)) for word in book.words()]


def suffices(mask, guarding):
    """True if the mask holds some of the needles of each word."""
    # What is left of a code keeps a word apart from the others exactly if it
    # holds needles that are enough: other words hold no more of them with
    # fewer holes.
    return all([contains_one(mask, needles) for needles in guarding])


def every_hole(book):
    """The mask of all holes of the book."""
    return (1 << book.n) - 1


def all_codes(book, size):
    """Tuples of each code of so many holes, in ascending order, and its mask."""
    return choices_by_size([(hole, 1 << hole) for hole in range(book.n)], size)[size]


def free_codes(book, size, k):
    """All codes of so many holes with which a new word may be added."""
    if not is_integer(size) or not 1 <= size <= LARGEST_SIZE:
        raise InvalidCount()
    check_count(k)
    if book.n > MOST_CODED_HOLES:
        raise LimitExceeded("holes")
    whole = every_hole(book)
    if not suffices(whole, guards(book, k)):
        return []
    coded = coded_words(book)
    # In a cover with the new word, what the new word does not hold is left to
    # one word less.
    guarding = guards(book, k - 1)
    return [code for code, mask in all_codes(book, size)
            if suffices(whole ^ mask, guarding)
            and few_words([(word, part & mask) for word, part in coded], mask, k) is None]


def kept(book, holes):
    """The book in which each code has only those of its holes that are among the holes."""
    check_holes(book, holes)
    codes = {word: [hole for hole in code if hole in holes] for word, code in book.codes().items()}
    for word, code in codes.items():
        if len(code) == 0:
            raise NothingLeft(word)
    return Book(book.n, codes)


def strong_guards(book, k):
    """The guards of a book that is strong for k; otherwise NothingLeft is raised."""
    guarding = guards(book, k)
    if not suffices(every_hole(book), guarding):
        raise NothingLeft("strength")
    return guarding


def needless_holes(book, k):
    """The holes that can be left out alone, so that the book stays strong for k."""
    check_count(k)
    guarding = strong_guards(book, k)
    return [hole for hole in range(book.n) if suffices(every_hole(book) ^ (1 << hole), guarding)]


def least_holes(book, k):
    """All sets of holes that are enough for k and from which no hole can be left out."""
    check_count(k)
    if book.n > MOST_CHOSEN_HOLES:
        raise LimitExceeded("holes")
    guarding = strong_guards(book, k)
    found = {}
    # Smaller sets come first, so a set with a smaller one in it contains one
    # that was found before.
    for holes, mask in choices_up_to([(hole, 1 << hole) for hole in range(book.n)], book.n):
        if not contains_one(mask, list(found)) and suffices(mask, guarding):
            found[mask] = holes
    return list(found.values())


def spoilt_sets(book, k):
    """Masks of places of words: each word with each of its least covers of at most k words."""
    places = {word: 1 << at for at, word in enumerate(book.words())}
    spoilt = []
    for word in book.words():
        parts = shared_parts(book, word)
        needed = mask_of(book.code(word))
        covers = []
        for names, mask in choices_up_to(parts, k):
            cover = sum([places[name] for name in names])
            if mask == needed and not contains_one(cover, covers):
                covers.append(cover)
        spoilt.extend([cover | places[word] for cover in covers])
    return spoilt


def largest_words(book, k):
    """All sets of words that are strong for k alone and to which no word can be added."""
    check_count(k)
    if len(book) > MOST_CHOSEN_WORDS:
        raise LimitExceeded("words")
    spoilt = spoilt_sets(book, k)
    placed = [(word, 1 << at) for at, word in enumerate(book.words())]
    found = {}
    for choices in choices_by_size(placed, len(placed))[::-1]:
        for words, mask in choices:
            if not lies_in_one(mask, list(found)) and not contains_one(mask, spoilt):
                found[mask] = list(words)
    return list(found.values())


def stronger(one, other, k):
    """None if each false fall of one is one of other, otherwise a word and the words of a card."""
    if one.words() != other.words():
        raise InvalidWords(-1)
    check_count(k)
    coded = coded_words(one)
    coded_other = coded_words(other)
    # Both lists have the same cards in the same order.
    for (words, mask), (_, mask_other) in zip(choices_up_to(coded, k), choices_up_to(coded_other, k)):
        shown_other = words_within(coded_other, mask_other)
        # What a card bears is shown in both books, so it is not among these.
        apart = [word for word in words_within(coded, mask) if word not in shown_other]
        if len(apart) > 0:
            return apart[0], list(words)
    return None
