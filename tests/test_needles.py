"""Points [21] to [25]: needles that are enough."""

import unittest
from itertools import combinations
from math import comb

from needledrop.books import Book, notches
from needledrop.covers import cover_of, strength
from needledrop.errors import InvalidCount, InvalidHoles, UnknownWord
from needledrop.needles import enough, least_needles, private
from helper import NO_COUNTS, NO_INTEGERS, NO_LISTS, UNKNOWN_WORDS, large_books, raised, sample, small_books
from helper import some_books, subsets


def held_by_search(book, word):
    """A dict from each set of holes of the code to the fewest other words that hold it, or to 99."""
    others = [set(notches(book, part)) for part in subsets([other for other in book if other != word])]
    sizes = [len(part) for part in subsets([other for other in book if other != word])]
    return {needles: min([size for holes, size in zip(others, sizes) if set(needles) <= holes], default=99)
            for needles in subsets(book.code(word))}


def least_by_search(held, k):
    """The least needles, given what held_by_search returned."""
    good = [needles for needles, size in held.items() if size > k]
    return [needles for needles in good if not any(set(other) < set(needles) for other in good)]


class SearchTest(unittest.TestCase):
    """Answers compared with a look at all sets of holes and all sets of other words."""

    def enough(self, book, word, needles, k, least):
        holders = enough(book, word, needles, k)
        if least > k:
            self.assertIsNone(holders)
            return
        self.assertIsInstance(holders, list)
        self.assertEqual(holders, sorted(set(holders)))
        self.assertLessEqual(len(holders), k)
        self.assertNotIn(word, holders)
        self.assertLessEqual(set(needles), set(notches(book, holders)))

    def book(self, book, words, counts):
        for word in words:
            held = held_by_search(book, word)
            for k in counts:
                for needles, least in held.items():
                    self.enough(book, word, needles, k, least)
                self.assertEqual(least_needles(book, word, k), least_by_search(held, k))
            self.assertEqual(private(book, word), least_by_search(held, 1))

    def test_small_books(self):
        for book in small_books():
            if len(book) < 8:
                self.book(book, book.words(), (1, 2, 3, 14))
            else:
                self.book(book, book.words()[:2], (1, 2, 3, 4, 14))

    def test_large_books(self):
        for book in large_books():
            for word in ("a", "h"):
                held = held_by_search(book, word)
                for k in (1, 2, 3, 4, 13, 14):
                    self.assertEqual(least_needles(book, word, k), least_by_search(held, k))
                    for needles in list(held)[::9] + [book.code(word)]:
                        self.enough(book, word, list(needles), k, held[needles])


class EnoughTest(unittest.TestCase):
    def test_by_name(self):
        self.assertEqual(enough(k=1, needles=(0,), word="cob", book=sample()), ["ash"])
        self.assertEqual(least_needles(k=1, word="cob", book=sample()), [(0, 2)])
        self.assertEqual(private(word="cob", book=sample()), [(0, 2)])

    def test_list_and_tuple(self):
        book = sample()
        self.assertEqual([enough(book, "dew", [3, 5], 2), enough(book, "dew", (3, 5), 2)], [None, None])
        self.assertEqual([enough(book, "cob", [0, 2], 2), enough(book, "cob", (0, 2), 2)], [["ash", "bay"]] * 2)
        self.assertEqual([enough(book, "cob", [0, 2], 1), enough(book, "cob", (2,), 1)], [None, ["bay"]])

    def test_no_needles(self):
        for book in (sample(), Book(2, {"dew": (0, 1)}), *large_books()):
            for needles in ([], ()):
                for k in (1, 14):
                    self.assertEqual(enough(book, book.words()[0], needles, k), [])

    def test_words_beyond_the_limit_do_not_help(self):
        letters = "abcdefgh"
        book = Book(8, {"z": tuple(range(8)), **{letter: (at,) for at, letter in enumerate(letters)}})
        for k in range(1, 15):
            self.assertEqual(enough(book, "z", list(range(8)), k), list(letters) if k > 7 else None)
            self.assertEqual(enough(book, "z", (1, 4, 7), k), ["b", "e", "h"] if k > 2 else None)
            expected = list(combinations(range(8), k + 1)) if k < 8 else []
            self.assertEqual(least_needles(book, "z", k), expected)
        self.assertEqual(private(book, "z"), list(combinations(range(8), 2)))
        self.assertEqual([private(book, "a"), least_needles(book, "a", 14)], [[], []])

    def test_a_word_alone(self):
        book = Book(3, {"a": (0, 2)})
        self.assertEqual([private(book, "a"), least_needles(book, "a", 14)], [[(0,), (2,)], [(0,), (2,)]])
        self.assertIsNone(enough(book, "a", (2,), 14))

    def test_order(self):
        # Hole 9 is held by nothing; of the others, each pair with hole 4 is in no other code.
        book = Book(10, {"a": (1, 2, 4, 9), "b": (1, 2), "c": (4,)})
        self.assertEqual(private(book, "a"), [(9,), (1, 4), (2, 4)])
        self.assertEqual(least_needles(book, "a", 2), [(9,)])

    def test_what_was_returned_may_be_changed(self):
        book = sample()
        enough(book, "cob", (0,), 1).clear()
        least_needles(book, "dew", 2).clear()
        private(book, "dew").clear()
        self.assertEqual(enough(book, "cob", (0,), 1), ["ash"])
        self.assertEqual([least_needles(book, "dew", 2), private(book, "dew")], [[(3,), (4,), (5,)]] * 2)

    def test_needles_are_not_changed(self):
        needles = [3, 4, 5]
        enough(sample(), "dew", needles, 2)
        self.assertEqual(needles, [3, 4, 5])


class WrongTest(unittest.TestCase):
    def test_word(self):
        for word in UNKNOWN_WORDS:
            error = (UnknownWord, {"word": word})
            self.assertEqual(raised(enough, sample(), word, None, 0), error)
            self.assertEqual(raised(least_needles, sample(), word, 0), error)
            self.assertEqual(raised(private, sample(), word), error)

    def needles(self, needles, at):
        for k in (1, 0, None):
            self.assertEqual(raised(enough, sample(), "dew", needles, k), (InvalidHoles, {"at": at}), needles)

    def test_needles_are_a_list(self):
        for needles in NO_LISTS + (sample(),):
            self.needles(needles, -1)

    def test_needles_are_ascending_holes_of_the_code(self):
        for hole in NO_INTEGERS + (-1, 0, 2, 6, 10 ** 30, 3.0, 4.0, "3", b"3", (3,), [3], {3}, {3: 3}, sample()):
            self.needles([hole], 0)
            self.needles((3, 4, hole, None), 2)
        self.needles([3, 3], 1)
        self.needles((3, 5, 4), 2)
        self.needles([5, 4, 9], 1)
        self.needles([3, 4, 5, 5], 3)
        self.needles([0, 3], 0)

    def test_true_is_no_hole(self):
        book = Book(2, {"a": (0, 1)})
        for hole in (True, False, 1.0, 0.0):
            self.assertEqual(raised(enough, book, "a", [hole], 1), (InvalidHoles, {"at": 0}))
        self.assertEqual(raised(enough, book, "a", (0, True), 1), (InvalidHoles, {"at": 1}))
        self.assertEqual(raised(enough, book, "a", (0, 1), True), (InvalidCount, {}))

    def test_count(self):
        for k in NO_COUNTS:
            for needles in ((), (3,), [3, 4, 5]):
                self.assertEqual(raised(enough, sample(), "dew", needles, k), (InvalidCount, {}), k)
            self.assertEqual(raised(least_needles, sample(), "dew", k), (InvalidCount, {}), k)
        self.assertIsNone(enough(sample(), "dew", (3,), 14))


class FactsTest(unittest.TestCase):
    """Point [25]."""

    def test_private_and_least_needles(self):
        for book in some_books() + list(large_books()):
            for word in book:
                self.assertEqual(private(book, word), least_needles(book, word, 1))

    def test_more_words(self):
        for book in some_books():
            for word in book:
                cover = cover_of(book, word)
                least = 99 if cover is None else len(cover)
                for k in range(1, 8):
                    self.assertEqual(least_needles(book, word, k) == [], least <= k)
                    for needles in subsets(book.code(word)):
                        if enough(book, word, needles, k + 1) is None:
                            self.assertIsNone(enough(book, word, needles, k))

    def parts(self, holes, k):
        """All divisions of the holes into at most k parts."""
        if not holes:
            yield []
        elif k > 0:
            for rest in subsets(holes[1:]):
                part = (holes[0],) + rest
                for more in self.parts(tuple(hole for hole in holes if hole not in part), k - 1):
                    yield [part] + more

    def test_divisions(self):
        for book in some_books():
            for word in book.words()[:4]:
                least = private(book, word)
                cover = cover_of(book, word)
                code = book.code(word)
                for k in (1, 2, 3):
                    if len(code) <= 5:
                        divided = any(not any(set(needles) <= set(part) for part in parts for needles in least)
                                      for parts in self.parts(code, k))
                        self.assertEqual(divided, cover is not None and len(cover) <= k)

    def test_number_of_private_parts(self):
        for book in some_books() + list(large_books()):
            for word in book:
                least = private(book, word)
                cover = cover_of(book, word)
                w = len(book.code(word))
                for k in range(1, 15):
                    if cover is None or len(cover) > k:
                        t = -(-w // k)
                        parts = [part for part in combinations(book.code(word), t)
                                 if any(set(needles) <= set(part) for needles in least)]
                        self.assertGreaterEqual(len(parts), comb(w - 1, t - 1))

    def test_number_of_words(self):
        for book in small_books():
            lengths = {len(book.code(word)) for word in book}
            if len(lengths) == 1:
                w = lengths.pop()
                for k in range(1, 15):
                    if strength(book) is None or strength(book) >= k:
                        t = -(-w // k)
                        self.assertLessEqual(len(book) * comb(w - 1, t - 1), comb(book.n, t))


if __name__ == "__main__":
    unittest.main()
