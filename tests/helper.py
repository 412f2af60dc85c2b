"""What several test files share."""

import random
from itertools import combinations, product

from needledrop.books import Book

# Values that are neither an integer, nor a string, nor a list, nor a dict.
ODD_THINGS = (None, True, 1.5, b"ash", {1, 2}, frozenset((1,)), range(3), object, len, float("nan"), 1j)
NO_LISTS = ODD_THINGS + (0, 7, "ash", "", {}, {0: 1})
NO_WORDS = ODD_THINGS + (0, 7, "", "Ash", "ash ", "a1", "a\n", "abcdefghi", " ", "a-b", (), [], ["ash"], ("ash",),
                         [[]], {}, {"ash": 1})
NO_INTEGERS = (None, True, False, 1.0, "1", b"1", [], [1], (1,), {}, {1}, 1j)


def sample():
    """The book of the worked examples."""
    return Book(6, {"dew": (3, 4, 5), "ash": [0, 1], "bay": (1, 2), "cob": (0, 2)})


def subsets(things):
    """All subsets as tuples: smaller ones first, equally large ones in order."""
    return [part for size in range(len(things) + 1) for part in combinations(things, size)]


def covers_by_search(book, word):
    """All covers of word, found among all sets of other words."""
    others = [other for other in book.words() if other != word]
    return [part for part in subsets(others)
            if set(book.code(word)) <= {hole for other in part for hole in book.code(other)}]


def small_books():
    """All books of 0 to 3 words with 3 holes, and many larger ones."""
    codes = [code for code in subsets(range(3)) if code]
    for count in range(4):
        for chosen in product(codes, repeat=count):
            yield Book(3, dict(zip("abc", chosen)))
    dice = random.Random(7)
    for _ in range(300):
        yield random_book(dice, dice.randint(1, 8), dice.randint(0, 7), 4)
    for _ in range(12):
        yield random_book(dice, 9, 11, 8)


def random_book(dice, n, count, longest):
    """A book with n holes and count words."""
    names = dice.sample([a + b for a in "abcdef" for b in ("", "a", "b", "zz")], count)
    return Book(n, {name: sorted(dice.sample(range(n), dice.randint(1, min(n, longest)))) for name in names})


def raised(call, *args, **more):
    """The class of the error that a call raises, and its attributes."""
    try:
        call(*args, **more)
    except Exception as error:
        return error.__class__, vars(error)
    return None
