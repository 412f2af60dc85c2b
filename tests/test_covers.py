"""Points [13] to [16]: covers and strength."""

import unittest
from itertools import combinations

from needledrop.books import Book, false_words
from needledrop.covers import cover_of, is_cover, least_covers, strength, weakest
from needledrop.errors import LimitExceeded, UnknownWord
from helper import NO_LISTS, NO_WORDS, covers_by_search, raised, sample, small_books, subsets

# One word "z" with a code of several holes, and words with one of its holes each.
GROUPS = "abcdefghijklm"


def grouped(sizes):
    """A book in which z has a hole for each size, and so many words have this hole."""
    holes = [hole for hole, size in enumerate(sizes) for _ in range(size)]
    codes = {GROUPS[at]: (hole,) for at, hole in enumerate(holes)}
    return Book(24, {"z": tuple(range(len(sizes))), **codes})


class IsCoverTest(unittest.TestCase):
    def test_lists_and_tuples_in_any_order(self):
        book = sample()
        for thing in (["ash", "bay"], ("bay", "ash"), ["dew", "bay", "ash"]):
            self.assertIs(is_cover(book, "cob", thing), True)
        self.assertIs(is_cover(thing=("ash", "bay"), word="cob", book=book), True)

    def test_no_covers(self):
        book = sample()
        for thing in ([], (), ["ash"], ["ash", "dew"], ["cob"], ["ash", "bay", "cob"], ["ash", "bay", "ash"],
                      ["ash", "bay", "elm"], ["ash", "bay", None], [["ash", "bay"]], ["ash", ["bay"]],
                      ("ash", "bay", ()), ["ash", "bay", {}], {"ash": 1, "bay": 1}, {"ash", "bay"}, "ash",
                      ["ash", "bay"] * 20, ["ash", "bay", True], book):
            self.assertIs(is_cover(book, "cob", thing), False, thing)
        for thing in NO_LISTS:
            self.assertIs(is_cover(book, "cob", thing), False)
        for thing in NO_WORDS:
            self.assertIs(is_cover(book, "cob", ["ash", "bay", thing]), False)

    def test_a_word_itself_does_not_cover_it(self):
        book = Book(3, {"a": (0, 1), "b": (0, 1, 2)})
        self.assertIs(is_cover(book, "a", ["a"]), False)
        self.assertIs(is_cover(book, "a", ["a", "b"]), False)
        self.assertIs(is_cover(book, "a", ["b"]), True)
        self.assertIs(is_cover(book, "b", ["a"]), False)

    def test_the_word_is_checked_first(self):
        self.assertEqual(raised(is_cover, sample(), "elm", None), (UnknownWord, {"word": "elm"}))
        self.assertEqual(raised(is_cover, sample(), ["ash"], None), (UnknownWord, {"word": ["ash"]}))

    def test_thirteen_words(self):
        book = grouped((13,))
        self.assertIs(is_cover(book, "z", list(GROUPS)), True)
        self.assertIs(is_cover(book, "z", list(GROUPS) + ["a"]), False)


class CoversTest(unittest.TestCase):
    def test_a_word_without_a_cover(self):
        book = sample()
        self.assertEqual([cover_of(book, "dew"), least_covers(book, "dew")], [None, []])
        self.assertEqual([cover_of(Book(1, {"a": (0,)}), "a"), least_covers(Book(1, {"a": (0,)}), "a")], [None, []])

    def test_by_name(self):
        self.assertEqual(cover_of(word="cob", book=sample()), ["ash", "bay"])
        self.assertEqual(least_covers(word="ash", book=sample()), [("bay", "cob")])

    def test_order_of_least_covers(self):
        book = Book(4, {"x": (0, 1, 2), "d": (0,), "a": (1,), "c": (2,), "b": (1, 2), "e": (0, 1, 2, 3), "f": (3,)})
        self.assertEqual(least_covers(book, "x"), [("e",), ("b", "d"), ("a", "c", "d")])
        self.assertEqual(cover_of(book, "x"), ["e"])

    def test_covers_of_eight_words(self):
        book = grouped((1,) * 8)
        self.assertEqual(least_covers(book, "z"), [tuple("abcdefgh")])
        self.assertEqual(cover_of(book, "z"), list("abcdefgh"))

    def test_just_eighty(self):
        for sizes in ((4, 4, 5), (5, 2, 4, 2), (2, 2, 2, 2, 5)):
            found = least_covers(grouped(sizes), "z")
            self.assertEqual(len(found), 80)
            self.assertEqual(found, sorted(found))

    def test_more_than_eighty(self):
        for sizes in ((3, 3, 3, 3), (3, 3, 3, 4), (2, 2, 2, 2, 2, 3)):
            self.assertEqual(raised(least_covers, grouped(sizes), "z"), (LimitExceeded, {"limit": "covers"}))
        self.assertEqual(raised(least_covers, grouped((3, 3, 3, 3)), "y"), (UnknownWord, {"word": "y"}))
        self.assertEqual(len(cover_of(grouped((3, 3, 3, 3)), "z")), 4)

    def test_what_was_returned_may_be_changed(self):
        book = sample()
        cover_of(book, "cob").clear()
        least_covers(book, "cob").clear()
        weakest(book)[1].clear()
        self.assertEqual([cover_of(book, "cob"), least_covers(book, "cob")], [["ash", "bay"], [("ash", "bay")]])
        self.assertEqual(len(weakest(book)[1]), 2)


class StrengthTest(unittest.TestCase):
    def test_without_covers(self):
        for book in (Book(1, {}), Book(1, {"a": (0,)}), Book(4, {"a": (0, 1), "b": (2, 3)})):
            self.assertIsNone(strength(book))
            self.assertIsNone(weakest(book))

    def test_words_with_the_same_code(self):
        book = Book(3, {"a": (0, 2), "b": (0, 2), "c": (1,)})
        self.assertEqual(strength(book), 0)
        self.assertIn(weakest(book), [("a", ["b"]), ("b", ["a"])])

    def test_the_smallest_cover_of_any_word(self):
        book = Book(12, {"z": (0, 1, 2), "a": (0, 7), "b": (1, 8), "c": (2, 9), "y": (3, 4), "d": (3, 5), "e": (4, 6)})
        self.assertEqual([strength(book=book), weakest(book=book)], [1, ("y", ["d", "e"])])

    def test_greatest_strength(self):
        codes = {GROUPS[hole]: (hole, hole + 8) for hole in range(8)}
        book = Book(16, {"z": tuple(range(8)), **codes})
        self.assertEqual([strength(book), weakest(book)], [7, ("z", list("abcdefgh"))])

    def test_fact_about_shared_holes(self):
        # The lines of a plane of 7 points: 3 holes each, any two share one.
        lines = ((0, 1, 3), (1, 2, 4), (2, 3, 5), (3, 4, 6), (0, 4, 5), (1, 5, 6), (0, 2, 6))
        self.assertEqual(strength(Book(7, dict(zip("abcdefg", lines)))), 2)


class SearchTest(unittest.TestCase):
    """Answers compared with a plain search through all sets of other words."""

    def test_covers(self):
        for book in small_books():
            for word in book:
                covers = covers_by_search(book, word)
                least = [cover for cover in covers if not any(set(other) < set(cover) for other in covers)]
                if len(least) > 80:
                    self.assertEqual(raised(least_covers, book, word), (LimitExceeded, {"limit": "covers"}))
                else:
                    self.assertEqual(least_covers(book, word), least)
                cover = cover_of(book, word)
                if covers:
                    self.assertIn(tuple(cover), covers)
                    self.assertEqual([len(cover), cover], [len(covers[0]), sorted(cover)])
                else:
                    self.assertIsNone(cover)

    def test_is_cover(self):
        for book in list(small_books())[::3]:
            if len(book) < 7:
                for word in book:
                    covers = covers_by_search(book, word)
                    for thing in subsets(book.words()):
                        self.assertIs(is_cover(book, word, thing[::-1]), thing in covers)
                        if word not in thing:
                            self.assertIs(is_cover(book, word, list(thing)), word in false_words(book, thing))

    def test_strength(self):
        for book in small_books():
            covers = {word: covers_by_search(book, word) for word in book}
            sizes = [len(found[0]) for found in covers.values() if found]
            if not sizes:
                self.assertEqual([strength(book), weakest(book)], [None, None])
                continue
            self.assertEqual(strength(book), min(sizes) - 1)
            pair = weakest(book)
            self.assertIsInstance(pair, tuple)
            word, cover = pair
            self.assertIn(tuple(cover), covers[word])
            self.assertEqual([len(cover), cover], [min(sizes), sorted(cover)])

    def test_facts(self):
        for book in list(small_books())[::2]:
            found = strength(book)
            endless = 99 if found is None else found
            for k in range(1, min(len(book), 4) + 1):
                clean = all(false_words(book, card) == [] for size in range(1, k + 1)
                            for card in combinations(book.words(), size))
                self.assertEqual(clean, endless >= k)
            for word in book:
                left = strength(book.without(word))
                self.assertTrue(left is None or left >= endless)
            shared = max([len(set(book.code(a)) & set(book.code(b))) for a, b in combinations(book, 2)], default=0)
            if shared == 0:
                self.assertIsNone(found)
            else:
                self.assertGreaterEqual(endless, (min(len(book.code(word)) for word in book) - 1) // shared)

    def test_renaming_changes_no_cover(self):
        for book in list(small_books())[::7]:
            names = {word: chr(ord("z") - at) for at, word in enumerate(book)}
            other = Book(book.n, {names[word]: sorted(book.n - 1 - hole for hole in book.code(word))
                                  for word in book})
            for word in book:
                renamed = [tuple(sorted(names[name] for name in cover)) for cover in covers_by_search(book, word)]
                self.assertEqual(sorted(renamed), sorted(covers_by_search(other, names[word])))
            self.assertEqual(strength(other), strength(book))


if __name__ == "__main__":
    unittest.main()
