"""Points [10] to [12]: cards and what falls."""

import unittest

from needledrop.books import Book, false_words, falls, notches, shown
from helper import sample, small_books, subsets


class CardsTest(unittest.TestCase):
    def test_notches(self):
        book = sample()
        self.assertEqual(notches(book, ["dew", "ash"]), (0, 1, 3, 4, 5))
        self.assertEqual(notches(words=("cob",), book=book), (0, 2))
        self.assertEqual([notches(book, []), notches(book, ()), notches(Book(1, {}), [])], [(), (), ()])

    def test_notches_are_ascending_beyond_ten(self):
        book = Book(24, {"a": (9, 23), "b": (0, 17), "c": (2, 8, 16)})
        self.assertEqual(notches(book, ["c", "a", "b"]), (0, 2, 8, 9, 16, 17, 23))

    def test_falls(self):
        book = sample()
        self.assertIs(falls(book, [0, 1, 5], "ash"), True)
        self.assertIs(falls(word="ash", holes=(0, 2, 3), book=book), False)
        self.assertIs(falls(book, (), "ash"), False)
        self.assertIs(falls(book, [0, 1, 2, 3, 4, 5], "dew"), True)

    def test_shown(self):
        book = sample()
        self.assertEqual(shown(book, (0, 1, 2)), ["ash", "bay", "cob"])
        self.assertEqual(shown(holes=[3, 4], book=book), [])
        self.assertEqual([shown(book, []), shown(Book(2, {}), [0, 1])], [[], []])

    def test_false_words(self):
        book = sample()
        self.assertEqual(false_words(book, ["cob", "bay"]), ["ash"])
        self.assertEqual(false_words(words=("ash", "bay", "cob"), book=book), [])
        self.assertEqual([false_words(book, []), false_words(book, ["dew"])], [[], []])

    def test_false_words_with_the_same_code(self):
        book = Book(3, {"c": (0, 1), "b": (0,), "d": (2,), "a": (0, 1)})
        self.assertEqual(false_words(book, ["c"]), ["a", "b"])
        self.assertEqual(false_words(book, ["b"]), [])

    def test_lists_are_new_on_each_call(self):
        book = sample()
        words = ["ash", "bay"]
        shown(book, (0, 1, 2)).clear()
        false_words(book, words).append("dew")
        self.assertEqual([shown(book, (0, 1, 2)), false_words(book, words)], [["ash", "bay", "cob"], ["cob"]])

    def test_facts(self):
        for book in list(small_books())[:700]:
            cards = subsets(book.words()) if len(book) < 6 else subsets(book.words())[:20]
            for card in cards:
                holes = notches(book, card)
                self.assertEqual(holes, tuple(sorted({hole for word in card for hole in book.code(word)})))
                seen = shown(book, holes)
                self.assertEqual(seen, [word for word in book if set(book.code(word)) <= set(holes)])
                self.assertEqual(false_words(book, card), [word for word in seen if word not in card])
                self.assertLessEqual(set(card), set(seen))
                self.assertEqual(notches(book, seen), holes)
                for word in book:
                    self.assertEqual(falls(book, holes, word), word in seen)

    def test_notches_lie_within_holes_if_all_words_are_shown(self):
        for book in list(small_books())[:420:5]:
            for holes in subsets(range(book.n)):
                seen = shown(book, list(holes))
                for card in subsets(book.words()):
                    self.assertEqual(set(notches(book, card)) <= set(holes), set(card) <= set(seen))


if __name__ == "__main__":
    unittest.main()
