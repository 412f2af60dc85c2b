"""What a card may bear, read back from its holes."""

from needledrop.checks import check_count, check_holes, is_integer
from needledrop.errors import InvalidCount, LimitExceeded, NothingLeft
from needledrop.masks import choices_up_to, coded_words, mask_of, size_of

MOST_TORN = 3
MOST_READINGS = 400
MOST_CLOSEST_WORDS = 8


def check_reading(book, holes, k, torn):
    """Raise what is due for the arguments of a reading."""
    check_holes(book, holes)
    check_count(k)
    if not is_integer(torn) or not 0 <= torn <= MOST_TORN:
        raise InvalidCount()


def falling_words(book, whole):
    """Tuples of each word that falls for the whole mask and the mask of its code."""
    return [(word, code) for word, code in coded_words(book) if code & whole == code]


def torn_numbers(book, holes, k):
    """Tuples of at most k words that fall for the holes, and how many holes are in none of them.

    They are in the order of readings.
    """
    whole = mask_of(holes)
    return [(words, size_of(whole ^ mask)) for words, mask in choices_up_to(falling_words(book, whole), k)]


def readings(book, holes, k, torn):
    """All readings in their order, each as a tuple of words."""
    check_reading(book, holes, k, torn)
    return [words for words, many in torn_numbers(book, holes, k) if many <= torn]


def count_readings(book, holes, k, *, torn=0):
    """The number of the readings."""
    return len(readings(book, holes, k, torn))


def first_reading(book, holes, k, *, torn=0):
    """The first reading, or None."""
    found = readings(book, holes, k, torn)
    if len(found) == 0:
        return None
    return list(found[0])


def each_reading(book, holes, k, *, torn=0):
    """Yield all readings in their order."""
    found = readings(book, holes, k, torn)
    if len(found) > MOST_READINGS:
        raise LimitExceeded("readings")
    for words in found:
        yield list(words)


def readings_by_word(book, holes, k, torn):
    """How many readings there are, and a dict from each word to how many of them have it."""
    found = readings(book, holes, k, torn)
    if len(found) == 0:
        raise NothingLeft("reading")
    having = {word: 0 for word in book.words()}
    for words in found:
        for word in words:
            having[word] = having[word] + 1
    return len(found), having


def sure_words(book, holes, k, *, torn=0):
    """The words that are in all readings."""
    many, having = readings_by_word(book, holes, k, torn)
    return [word for word in book.words() if having[word] == many]


def maybe_words(book, holes, k, *, torn=0):
    """The words that are in some reading, but not in all."""
    many, having = readings_by_word(book, holes, k, torn)
    return [word for word in book.words() if 0 < having[word] < many]


def barred_words(book, holes, k, *, torn=0):
    """The words that are in no reading."""
    _, having = readings_by_word(book, holes, k, torn)
    return [word for word in book.words() if having[word] == 0]


def sources(book, holes):
    """A dict from each of the holes to the words that fall and have it."""
    check_holes(book, holes)
    falling = falling_words(book, mask_of(holes))
    return {hole: [word for word, code in falling if code & (1 << hole) > 0] for hole in holes}


def least_torn(book, holes, k):
    """The least number of torn holes with which there is a reading."""
    check_holes(book, holes)
    check_count(k)
    return min([many for _, many in torn_numbers(book, holes, k)])


def twins(book, k):
    """Two cards of at most k words that have the same holes, or None."""
    check_count(k)
    borne = {}
    for words, mask in choices_up_to(coded_words(book), k):
        if mask in borne:
            return list(borne[mask]), list(words)
        borne[mask] = words
    return None


def gap_between(mask, other):
    """The gap between two cards with these holes."""
    shared = mask & other
    return max(size_of(mask ^ shared), size_of(other ^ shared))


def closest(book, k):
    """The least gap between two cards of at most k words, and two such cards, or None."""
    check_count(k)
    if len(book) > MOST_CLOSEST_WORDS:
        raise LimitExceeded("words")
    cards = choices_up_to(coded_words(book), k)
    best = None
    for at, (words, mask) in enumerate(cards):
        for earlier, other in cards[:at]:
            gap = gap_between(mask, other)
            if best is None or gap < best[0]:
                best = (gap, list(earlier), list(words))
    return best
