"""What several test files share."""

import random
from itertools import combinations, product

from needledrop.books import Book

# Values that are neither an integer, nor a string, nor a list, nor a dict.
ODD_THINGS = (None, True, 1.5, b"ash", {1, 2}, frozenset((1,)), range(3), object, len, float("nan"), 1j)
NO_LISTS = ODD_THINGS + (0, 7, "ash", "", {}, {0: 1})
NO_WORDS = ODD_THINGS + (0, 7, "", "Ash", "ash ", "a1", "a\n", "abcdefghi", " ", "a-b", (), [], ["ash"], ("ash",),
                         [[]], {}, {"ash": 1})
NO_INTEGERS = (None, True, False, 1.0, "1", b"1", [], [1], (1,), {}, {1}, 1j)


def sample():
    """The book of the worked examples."""
    return Book(6, {"dew": (3, 4, 5), "ash": [0, 1], "bay": (1, 2), "cob": (0, 2)})


# Each is wrong as a number of words of a card.
NO_COUNTS = NO_INTEGERS + NO_LISTS[:5] + (0, 15, -1, 10 ** 30, "", "ash", {0: 1}, sample())
# Each is wrong as a word of the book of the worked examples.
UNKNOWN_WORDS = NO_WORDS + ("elm", "as", "ashes", sample())


def subsets(things):
    """All subsets as tuples: smaller ones first, equally large ones in order."""
    return [part for size in range(len(things) + 1) for part in combinations(things, size)]


def covers_by_search(book, word):
    """All covers of word, found among all sets of other words."""
    others = [other for other in book.words() if other != word]
    return [part for part in subsets(others)
            if set(book.code(word)) <= {hole for other in part for hole in book.code(other)}]


def cards_by_search(book, k):
    """A dict from the cards of at most k words, in their order, to their holes."""
    return {words: {hole for word in words for hole in book.code(word)}
            for words in subsets(book.words()) if len(words) <= k}


def large_books():
    """Books of 14 words: with 24 holes and codes of 8, with fewer holes, and with one hole for each word."""
    dice = random.Random(5)
    letters = "abcdefghijklmn"
    yield Book(24, {letter: sorted(dice.sample(range(24), 8)) for letter in letters})
    yield Book(14, {letter: sorted(dice.sample(range(14), 8)) for letter in letters})
    yield Book(9, {letter: sorted(dice.sample(range(9), dice.randint(1, 5))) for letter in letters})
    yield Book(24, {letter: (at,) for at, letter in enumerate(letters)})


def some_books():
    """Every fifth one of the small books."""
    return list(small_books())[::5]


def small_books():
    """All books of 0 to 3 words with 3 holes, and many larger ones."""
    codes = [code for code in subsets(range(3)) if code]
    for count in range(4):
        for chosen in product(codes, repeat=count):
            yield Book(3, dict(zip("abc", chosen)))
    dice = random.Random(7)
    for _ in range(300):
        yield random_book(dice, dice.randint(1, 8), dice.randint(0, 7), 4)
    for _ in range(12):
        yield random_book(dice, 9, 11, 8)


def random_book(dice, n, count, longest):
    """A book with n holes and count words."""
    names = dice.sample([a + b for a in "abcdef" for b in ("", "a", "b", "zz")], count)
    return Book(n, {name: sorted(dice.sample(range(n), dice.randint(1, min(n, longest)))) for name in names})


def raised(call, *args, **more):
    """The class of the error that a call raises, and its attributes."""
    try:
        call(*args, **more)
    except Exception as error:
        return error.__class__, vars(error)
    return None
