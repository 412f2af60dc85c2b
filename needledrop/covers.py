"""Covers of words, and the strength of a book."""

from needledrop.checks import check_word, is_list
from needledrop.errors import LimitExceeded
from needledrop.masks import joined, mask_of

MOST_COVERS = 80


def shared_parts(book, word):
    """Tuples of each other word and the mask of the holes that it shares with word."""
    needed = mask_of(book.code(word))
    return [(other, mask_of(book.code(other)) & needed) for other in book.words() if other != word]


def fewest_words(parts, needed):
    """The fewest words whose parts together are all that is needed, or None."""
    # Two choices that hold the same holes are worth the same for what is to
    # come, so one way to each mask is enough.
    reached = {0: []}
    level = [0]
    while level and needed not in reached:
        following = []
        for mask in list(level):
            for other, part in parts:
                wider = mask | part
                if wider not in reached:
                    reached[wider] = reached[mask] + [other]
                    following.append(wider)
        level = following
    if needed not in reached:
        return None
    return sorted(reached[needed])


def few_words(parts, needed, k):
    """At most k words whose parts together are all that is needed, or None."""
    words = fewest_words(parts, needed)
    if words is None or len(words) > k:
        return None
    return words


def none_needless(masks):
    """True if each mask has a hole that is in no other one of them."""
    once = 0
    again = 0
    for mask in masks:
        again = again | (once & mask)
        once = once | mask
    return all([mask & (once ^ again) > 0 for mask in masks])


def longer_choices(masks, choice):
    """The choices with one more, later mask in which no mask is needless."""
    first = choice[-1] + 1 if choice else 0
    longer = [choice + (at,) for at in range(first, len(masks))]
    return [more for more in longer if none_needless([masks[at] for at in more])]


def is_cover(book, word, thing):
    """True if thing is a list of other words that cover the word."""
    check_word(book, word)
    if not is_list(thing):
        return False
    earlier = {word: True}
    for other in thing:
        if other not in book or other in earlier:
            return False
        earlier[other] = True
    needed = mask_of(book.code(word))
    return joined([mask_of(book.code(other)) for other in thing]) & needed == needed


def cover_of(book, word):
    """A cover of the word with the fewest words, or None."""
    check_word(book, word)
    return fewest_words(shared_parts(book, word), mask_of(book.code(word)))


def least_covers(book, word):
    """All covers of the word from which no word can be left out."""
    check_word(book, word)
    needed = mask_of(book.code(word))
    parts = shared_parts(book, word)
    masks = [part for _, part in parts]
    found = []
    # A word that is needless stays needless with more words beside it, so
    # only choices without one are made longer. Each level has them in order.
    level = [()]
    while level:
        following = []
        for choice in list(level):
            if joined([masks[at] for at in choice]) == needed:
                found.append(tuple([parts[at][0] for at in choice]))
            else:
                following.extend(longer_choices(masks, choice))
        if len(found) > MOST_COVERS:
            raise LimitExceeded("covers")
        level = following
    return found


def weakest(book):
    """A word and its cover, such that no cover in the book is smaller, or None."""
    best = None
    for word in book.words():
        cover = cover_of(book, word)
        if cover is not None and (best is None or len(cover) < len(best[1])):
            best = (word, cover)
    return best


def strength(book):
    """The greatest k for which no word is covered by k or fewer others, or None."""
    pair = weakest(book)
    if pair is None:
        return None
    return len(pair[1]) - 1
