"""What several test files share."""

import random
from itertools import combinations, product

from needledrop.books import Book
from needledrop.drawer import Drawer
from needledrop.errors import LimitExceeded


def sample():
    """The book of the worked examples."""
    return Book(6, {"dew": (3, 4, 5), "ash": [0, 1], "bay": (1, 2), "cob": (0, 2)})


def example():
    """The book of the example of point [47]."""
    return Book(4, {"a": (0, 1), "b": (1, 2), "c": (2, 3), "d": (0, 2)})


def nested(thing, depth):
    """A list in a list, and so on, with the thing at the bottom."""
    for _ in range(depth):
        thing = [thing]
    return thing


# Objects of the program's own classes.
OWN_THINGS = (Book(1, {"odd": (0,)}), Drawer(Book(2, {"odd": (1,)})))
# Values that are neither an integer, nor a string, nor a list, nor a dict.
ODD_THINGS = (None, True, 1.5, b"ash", {1, 2}, frozenset((1,)), range(3), object, len, float("nan"), 1j)
NO_LISTS = ODD_THINGS + OWN_THINGS + (0, 7, "ash", "", {}, {0: 1})
NO_WORDS = ODD_THINGS + OWN_THINGS + (0, 7, "", "Ash", "ash ", "a1", "a\n", "abcdefghi", " ", "a-b", (), [], ["ash"],
                                      ("ash",), [[]], {}, {"ash": 1}, nested("ash", 20), ({"ash": ["ash"]},))
NO_INTEGERS = (None, True, False, 1.0, "1", b"1", [], [1], (1,), {}, {1}, 1j, nested(1, 20)) + OWN_THINGS
# Each is wrong as a number of words of a card.
NO_COUNTS = NO_INTEGERS + ODD_THINGS + (0, 15, -1, 10 ** 30, "", "ash", {0: 1}, sample())
# Each is wrong as a word of the book of the worked examples.
UNKNOWN_WORDS = NO_WORDS + ("elm", "as", "ashes", sample())
# Each is no list of 1 to 8 items.
NO_CODE_LISTS = NO_LISTS + ((), [], tuple(range(9)), list(range(9)))
# Each is wrong as a code of a book with 9 holes.
NO_CODES = NO_CODE_LISTS + ((0, 0), (1, 0), (0, 1, 1), (9,), (-1,), (0, 9), (True,), (0, True), (0, 1.0), ("0",),
                            (None,), [[0]], [(0, 1)], ((0,), (1,)), [0, [1]], [{}], nested(0, 20))


def subsets(things):
    """All subsets as tuples: smaller ones first, equally large ones in order."""
    return [part for size in range(len(things) + 1) for part in combinations(things, size)]


def covers_by_search(book, word):
    """All covers of word, found among all sets of other words."""
    others = [other for other in book.words() if other != word]
    return [part for part in subsets(others)
            if set(book.code(word)) <= {hole for other in part for hole in book.code(other)}]


def cards_by_search(book, k):
    """A dict from the cards of at most k words, in their order, to their holes."""
    return {words: {hole for word in words for hole in book.code(word)}
            for words in subsets(book.words()) if len(words) <= k}


def truth(question, true):
    """Whether the question comes out true if just these words are true."""
    kind, *parts = question
    if kind == "word":
        return parts[0] in true
    values = [truth(part, true) for part in parts]
    return {"and": all(values), "or": any(values), "not": not values[0]}[kind]


def random_question(dice, words, nodes, levels=8):
    """A question of at most so many nodes and levels about some of the words."""
    kinds = ["word"]
    if nodes >= 2 and levels >= 2:
        kinds = ["not", "word"]
    if nodes >= 3 and levels >= 2:
        kinds = ["not", "and", "or", "and", "or"]
    kind = dice.choice(kinds)
    if kind == "word":
        return ("word", dice.choice(words))
    if kind == "not":
        return ("not", random_question(dice, words, nodes - 1, levels - 1))
    left = dice.randint(1, nodes - 2)
    return (kind, random_question(dice, words, left, levels - 1),
            random_question(dice, words, nodes - 1 - left, levels - 1))


def large_books():
    """Books of 14 words: with 24 holes and codes of 8, with fewer holes, and with one hole for each word."""
    dice = random.Random(5)
    letters = "abcdefghijklmn"
    yield Book(24, {letter: sorted(dice.sample(range(24), 8)) for letter in letters})
    yield Book(14, {letter: sorted(dice.sample(range(14), 8)) for letter in letters})
    yield Book(9, {letter: sorted(dice.sample(range(9), dice.randint(1, 5))) for letter in letters})
    yield Book(24, {letter: (at,) for at, letter in enumerate(letters)})


def some_books():
    """Every fifth one of the small books."""
    return list(small_books())[::5]


def small_books():
    """All books of 0 to 3 words with 3 holes, and many larger ones."""
    codes = [code for code in subsets(range(3)) if code]
    for count in range(4):
        for chosen in product(codes, repeat=count):
            yield Book(3, dict(zip("abc", chosen)))
    dice = random.Random(7)
    for _ in range(300):
        yield random_book(dice, dice.randint(1, 8), dice.randint(0, 7), 4)
    for _ in range(12):
        yield random_book(dice, 9, 11, 8)


def random_book(dice, n, count, longest):
    """A book with n holes and count words."""
    names = dice.sample([a + b for a in "abcdef" for b in ("", "a", "b", "zz")], count)
    return Book(n, {name: sorted(dice.sample(range(n), dice.randint(1, min(n, longest)))) for name in names})


def held(drawer):
    """What a drawer holds: its book, its cards and its last number, which the next put tells."""
    other = drawer.twin()
    numbers = other.numbers()
    if len(other) == 60:
        other.strike(numbers[0])
    try:
        last = other.put([]) - 1
    except LimitExceeded:
        last = 10 ** 9
    return drawer.book, list(drawer.cards()), last


def raised(call, *args, **more):
    """The class of the error that a call raises, and its attributes."""
    try:
        call(*args, **more)
    except Exception as error:
        return error.__class__, vars(error)
    return None
