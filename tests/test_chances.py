"""Points [17] to [20]: chances."""

import unittest
from fractions import Fraction
from itertools import combinations
from math import comb

from needledrop.books import Book, false_words
from needledrop.chances import card_share, false_share, mean_false
from needledrop.covers import strength
from needledrop.errors import InvalidCount, LimitExceeded, UnknownWord
from helper import NO_COUNTS, UNKNOWN_WORDS, covers_by_search, large_books, raised, sample, small_books, some_books

FEW_WORDS = (LimitExceeded, {"limit": "words"})


def pair(share):
    """A share as the document writes it."""
    return (share.numerator, share.denominator)


def holes_of(book, words):
    return {hole for word in words for hole in book.code(word)}


def false_share_by_count(book, word, k):
    cards = list(combinations([other for other in book if other != word], k))
    return Fraction(sum(set(book.code(word)) <= holes_of(book, card) for card in cards), len(cards))


def false_numbers_by_count(book, k):
    """How many words each card of k words shows falsely."""
    codes = {word: set(book.code(word)) for word in book}
    cards = [(card, holes_of(book, card)) for card in combinations(book.words(), k)]
    return [sum(codes[word] <= holes and word not in card for word in book) for card, holes in cards]


class CountTest(unittest.TestCase):
    """Answers compared with a count of all cards one by one."""

    def alike(self, share, expected):
        self.assertEqual(share, pair(expected))
        self.assertEqual([share.__class__, [item.__class__ for item in share]], [tuple, [int, int]])

    def false_share(self, book, counts):
        for word in book:
            for k in counts:
                if k < len(book):
                    self.alike(false_share(book, word, k), false_share_by_count(book, word, k))
                else:
                    self.assertEqual(raised(false_share, book, word, k), FEW_WORDS)

    def cards(self, book, counts):
        for k in counts:
            if k > len(book):
                self.assertEqual([raised(mean_false, book, k), raised(card_share, book, k)], [FEW_WORDS, FEW_WORDS])
                continue
            numbers = false_numbers_by_count(book, k)
            self.alike(mean_false(book, k), Fraction(sum(numbers), len(numbers)))
            self.alike(card_share(book, k), Fraction(numbers.count(0), len(numbers)))

    def test_small_books(self):
        for book in small_books():
            counts = range(1, len(book) + 2) if len(book) < 8 else (1, 2, 3, 10, 11)
            self.false_share(book, counts)
            self.cards(book, counts)

    def test_large_books(self):
        for book in large_books():
            self.cards(book, (1, 2, 7, 13, 14))
            for word in ("a", "n"):
                for k in (1, 2, 6, 12, 13):
                    self.alike(false_share(book, word, k), false_share_by_count(book, word, k))
                self.assertEqual(raised(false_share, book, word, 14), FEW_WORDS)


class SharesTest(unittest.TestCase):
    def test_by_name(self):
        self.assertEqual(false_share(k=2, word="cob", book=sample()), (1, 3))
        self.assertEqual([mean_false(k=2, book=sample()), card_share(k=2, book=sample())], [(1, 2), (1, 2)])

    def test_nothing_and_all(self):
        book = Book(2, {"a": (0,), "b": (0,), "c": (0, 1)})
        self.assertEqual([false_share(book, "c", 1), false_share(book, "c", 2)], [(0, 1), (0, 1)])
        self.assertEqual([false_share(book, "a", 1), false_share(book, "a", 2)], [(1, 1), (1, 1)])
        self.assertEqual([mean_false(book, 1), card_share(book, 1)], [(4, 3), (0, 1)])

    def test_one_word(self):
        book = sample()
        self.assertEqual([false_share(book, word, 1) for word in book], [(0, 1)] * 4)
        self.assertEqual([mean_false(book, 1), card_share(book, 1)], [(0, 1), (1, 1)])

    def test_all_words(self):
        for book in (sample(), Book(1, {"a": (0,)}), Book(1, {"a": (0,), "b": (0,)}), *large_books()):
            self.assertEqual([mean_false(book, len(book)), card_share(book, len(book))], [(0, 1), (1, 1)])

    def test_lowest_terms_of_many_cards(self):
        # Two of thirteen others cover a: 13 * 12 / 2 sets of two words, and 11 * 10 / 2 lack both.
        book = Book(14, {letter: (max(0, at - 2),) for at, letter in enumerate("abcdefghijklmn")})
        self.assertEqual(false_share(book, "a", 2), pair(Fraction(78 - 55, 78)))
        self.assertEqual(false_share(book, "d", 7), (0, 1))
        self.assertEqual(false_share(book, "a", 13), (1, 1))


class WrongTest(unittest.TestCase):
    def test_word(self):
        for word in UNKNOWN_WORDS:
            for k in (1, 4, 0, None):
                self.assertEqual(raised(false_share, sample(), word, k), (UnknownWord, {"word": word}))

    def test_count(self):
        for book in (sample(), Book(1, {"ash": (0,)})):
            for k in NO_COUNTS:
                self.assertEqual(raised(false_share, book, "ash", k), (InvalidCount, {}), k)
                self.assertEqual(raised(mean_false, book, k), (InvalidCount, {}), k)
                self.assertEqual(raised(card_share, book, k), (InvalidCount, {}), k)
        self.assertEqual([raised(mean_false, Book(1, {}), 0), raised(card_share, Book(1, {}), 15)],
                         [(InvalidCount, {}), (InvalidCount, {})])

    def test_too_few_words(self):
        book = sample()
        for k in range(1, 15):
            self.assertEqual(raised(false_share, book, "ash", k), FEW_WORDS if k > 3 else None)
            self.assertEqual(raised(mean_false, book, k), FEW_WORDS if k > 4 else None)
            self.assertEqual(raised(card_share, book, k), FEW_WORDS if k > 4 else None)
        self.assertEqual(raised(false_share, Book(1, {"a": (0,)}), "a", 1), FEW_WORDS)
        self.assertEqual([raised(mean_false, Book(1, {}), 1), raised(card_share, Book(1, {}), 1)], [FEW_WORDS] * 2)

    def test_what_is_due_first(self):
        book = Book(1, {"a": (0,)})
        self.assertEqual(raised(false_share, book, "b", 15), (UnknownWord, {"word": "b"}))
        self.assertEqual(raised(false_share, book, "b", 14), (UnknownWord, {"word": "b"}))
        self.assertEqual(raised(false_share, book, "a", 15), (InvalidCount, {}))
        self.assertEqual(raised(false_share, book, "a", 14), FEW_WORDS)


class FactsTest(unittest.TestCase):
    """Point [20]."""

    def covers_by_formula(self, book, word, k):
        total = 0
        for size in range(len(book.code(word)) + 1):
            for lost in combinations(book.code(word), size):
                free = [other for other in book if other != word and not set(lost) & set(book.code(other))]
                total += (-1) ** size * comb(len(free), k)
        return total

    def test_number_of_covers(self):
        for book in some_books() + list(large_books()):
            for word in book.words()[:3]:
                for k in range(1, len(book)):
                    covers = self.covers_by_formula(book, word, k)
                    self.assertEqual(false_share(book, word, k), pair(Fraction(covers, comb(len(book) - 1, k))))

    def test_mean(self):
        for book in some_books() + list(large_books()):
            for k in range(1, len(book)):
                total = sum(Fraction(*false_share(book, word, k)) for word in book)
                self.assertEqual(mean_false(book, k), pair(Fraction(len(book) - k, len(book)) * total))

    def test_shares_do_not_fall(self):
        for book in some_books():
            for word in book:
                least = min([len(cover) for cover in covers_by_search(book, word)], default=99)
                shares = [Fraction(*false_share(book, word, k)) for k in range(1, len(book))]
                self.assertEqual(shares, sorted(shares))
                self.assertEqual([share == 0 for share in shares], [k < least for k in range(1, len(book))])

    def test_strength(self):
        for book in some_books():
            found = strength(book)
            for k in range(1, len(book) + 1):
                share = card_share(book, k)
                if found is None or k <= found:
                    self.assertEqual(share, (1, 1))
                elif k == found + 1:
                    self.assertLess(Fraction(*share), 1)
                self.assertLessEqual(1 - Fraction(*share), Fraction(*mean_false(book, k)))

    def test_false_words(self):
        for book in some_books():
            for k in range(1, len(book) + 1):
                numbers = [len(false_words(book, card)) for card in combinations(book.words(), k)]
                self.assertEqual(mean_false(book, k), pair(Fraction(sum(numbers), len(numbers))))


if __name__ == "__main__":
    unittest.main()
