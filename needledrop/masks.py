"""Sets of holes as numbers, and choices of what has such a number."""


def mask_of(holes):
    """The holes as one number, in which bit h stands for hole h."""
    return sum([1 << hole for hole in holes])


def size_of(mask):
    """How many holes are in the mask."""
    many = 0
    while mask > 0:
        mask = mask & (mask - 1)
        many = many + 1
    return many


def joined(masks):
    """The holes that are in at least one of the masks."""
    whole = 0
    for mask in masks:
        whole = whole | mask
    return whole


def lies_in_one(mask, masks):
    """True if all holes of the mask lie in one of the masks."""
    return any([mask & other == mask for other in masks])


def contains_one(mask, masks):
    """True if all holes of one of the masks lie in the mask."""
    return any([mask & other == other for other in masks])


def coded_words(book):
    """Tuples of each word of the book, in ascending order, and its mask."""
    return [(word, mask_of(book.code(word))) for word in book.words()]


def words_within(coded, mask):
    """The words whose masks lie in the mask."""
    return [word for word, code in coded if code & mask == code]


def choices_by_size(parts, k):
    """A list for each size from 0 to k: all choices of so many of the parts.

    Parts are tuples of a name and a mask, in ascending order of the names. A
    choice is a tuple of its names and the mask of what they hold together;
    the choices of each list are ordered by their names.
    """
    sized = [[((), 0)]] + [[] for _ in range(k)]
    # Backwards, so that what is put in front keeps the order of the names,
    # and from the greatest size down, so that no part is chosen twice.
    for name, part in parts[::-1]:
        for size in range(k, 0, -1):
            longer = [((name,) + names, part | mask) for names, mask in sized[size - 1]]
            sized[size] = longer + sized[size]
    return sized


def choices_up_to(parts, k):
    """All choices of at most k of the parts, those of fewer parts first."""
    return [choice for choices in choices_by_size(parts, k) for choice in choices]
