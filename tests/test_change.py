"""Points [70] to [77]: other books."""

import random
import unittest
from itertools import combinations

from needledrop.books import Book
from needledrop.change import free_codes, kept, largest_words, least_holes, may_add, needless_holes, stronger
from needledrop.covers import strength
from needledrop.errors import InvalidCount, InvalidHoles, InvalidWords, LimitExceeded, NothingLeft
from helper import NO_CODE_LISTS, NO_COUNTS, NO_INTEGERS, NO_LISTS, cards_by_search, large_books, raised, random_book
from helper import sample, small_books, some_books, subsets

NO_COUNT = (InvalidCount, {})
NO_STRENGTH = (NothingLeft, {"what": "strength"})
FOURTEEN = "abcdefghijklmn"


def pair_book():
    """The book of the example of point [77]."""
    return Book(3, {"a": (0, 1), "b": (1, 2)})


def short_covers(codes, k):
    """All pairs of a name and at most k other names that cover it, where codes is a dict from names to sets."""
    return [(name, cover) for name in codes for cover in subsets([other for other in codes if other != name])
            if len(cover) <= k and codes[name] <= set().union(*[codes[other] for other in cover])]


def strong(codes, k):
    """True if no name is covered by at most k others."""
    masks = {name: sum(1 << hole for hole in code) for name, code in codes.items()}
    for name, mask in masks.items():
        unions = {0}
        for size in range(k):
            longer = {union | (other & mask) for union in unions for at, other in masks.items() if at != name}
            if longer <= unions:
                break
            unions |= longer
        if mask in unions:
            return False
    return True


def sets_of(book):
    """A dict from the words of the book to their holes as sets."""
    return {word: set(code) for word, code in book.codes().items()}


def enough_by_search(book, holes, k):
    """True if the set of holes is enough for k."""
    codes = {word: code & set(holes) for word, code in sets_of(book).items()}
    return all(codes.values()) and strong(codes, k)


class StrongTest(unittest.TestCase):
    """The search of these tests itself, against point [70]."""

    def test_strong(self):
        for book in small_books():
            if len(book) < 8:
                for k in (1, 2, 3, 14):
                    found = strength(book)
                    self.assertEqual(strong(sets_of(book), k), found is None or found >= k)
                    self.assertEqual(strong(sets_of(book), k), short_covers(sets_of(book), k) == [])


class MayAddTest(unittest.TestCase):
    """Point [71]."""

    def told(self, book, code, k):
        found = may_add(book, code, k)
        codes = {**sets_of(book), None: set(code)}
        if strong(codes, k):
            self.assertIsNone(found)
            return
        self.assertEqual([found.__class__, len(found), found[1].__class__], [tuple, 2, list])
        word, cover = found
        self.assertIn(word, codes)
        words = cover[:-1] if cover[-1:] == [None] else cover
        self.assertEqual(words, sorted(set(words)))
        self.assertTrue(all(other in book for other in words))
        self.assertNotIn(word, cover)
        self.assertLessEqual(len(cover), k)
        self.assertLessEqual(codes[word], set().union(*[codes[other] for other in cover]))

    def test_small_books(self):
        dice = random.Random(51)
        for book in some_books():
            for code in subsets(range(book.n))[1:]:
                if len(code) <= 8 and (book.n <= 3 or dice.random() < 0.1):
                    for k in (1, 2, 3, 14):
                        self.told(book, dice.choice((list, tuple))(code), k)

    def test_books_of_fourteen_words(self):
        dice = random.Random(52)
        for book in large_books():
            for size in (1, 2, 3, 4, 8):
                for k in (1, 2, 3, 14):
                    self.told(book, sorted(dice.sample(range(book.n), size)), k)
        full = Book(24, {letter: (at, at + 1) for at, letter in enumerate(FOURTEEN)})
        self.assertIsNone(may_add(full, (14, 15), 1))
        self.assertIsNone(may_add(full, (0, 23), 1))
        self.assertEqual([may_add(full, (15,), 1), may_add(full, (15,), 14)[0] is None], [None, False])
        self.assertEqual(may_add(Book(24, {letter: (at, 20) for at, letter in enumerate(FOURTEEN)}), (20,), 1)[0], None)

    def test_books_without_words(self):
        for k in (1, 14):
            for code in ((0,), [0, 1, 2], (2,)):
                self.assertIsNone(may_add(Book(3, {}), code, k))

    def test_a_book_that_is_not_strong(self):
        book = Book(4, {"a": (0,), "b": (0, 1)})
        self.assertEqual(may_add(book, (3,), 1), ("a", ["b"]))
        self.assertEqual(free_codes(book, 1, 1), [])

    def test_the_new_word_stands_last(self):
        # Only the new word and a word behind it in the order of words, together, cover b.
        book = Book(4, {"b": (0, 1), "zz": (1, 2)})
        self.assertEqual(may_add(book, (0, 3), 2), ("b", ["zz", None]))
        self.assertEqual(may_add(Book(4, {"b": (0,), "zz": (1,)}), (0, 1, 3), 1)[1], [None])
        self.assertEqual(may_add(Book(4, {"b": (0, 3), "zz": (1, 2)}), (0, 1), 2), (None, ["b", "zz"]))

    def test_example(self):
        self.assertIn(may_add(pair_book(), (1,), 1), [(None, ["a"]), (None, ["b"])])
        self.told(pair_book(), (0, 2), 2)
        self.assertIsNotNone(may_add(pair_book(), (0, 2), 2))
        self.assertIsNone(may_add(k=1, code=(0, 2), book=pair_book()))

    def test_codes(self):
        for code in NO_CODE_LISTS:
            for k in (1, None):
                self.assertEqual(raised(may_add, Book(9, {}), code, k), (InvalidHoles, {"at": -1}), code)
        for hole in NO_INTEGERS + (-1, 9, 10 ** 30, [0], (0,), {0}):
            for k in (1, 0):
                self.assertEqual(raised(may_add, Book(9, {}), [hole], k), (InvalidHoles, {"at": 0}), hole)
                self.assertEqual(raised(may_add, Book(9, {}), (0, 1, hole, None), k), (InvalidHoles, {"at": 2}), hole)
        self.assertEqual(raised(may_add, Book(9, {}), (3, 3), 1), (InvalidHoles, {"at": 1}))
        self.assertEqual(raised(may_add, Book(9, {}), [3, 5, 4, 99], 1), (InvalidHoles, {"at": 2}))
        self.assertEqual(raised(may_add, Book(9, {}), [None] * 9, 1), (InvalidHoles, {"at": -1}))
        self.assertEqual(raised(may_add, Book(9, {}), [9] * 8, 1), (InvalidHoles, {"at": 0}))
        self.assertIsNone(may_add(Book(9, {}), tuple(range(1, 9)), 1))

    def test_count(self):
        for k in NO_COUNTS:
            self.assertEqual(raised(may_add, sample(), (0,), k), NO_COUNT)

    def test_what_was_returned_may_be_changed(self):
        may_add(pair_book(), (1,), 1)[1].append("x")
        self.assertIn(may_add(pair_book(), (1,), 1), [(None, ["a"]), (None, ["b"])])


class FreeCodesTest(unittest.TestCase):
    """Point [72]."""

    def free(self, book, size, k):
        expected = [code for code in combinations(range(book.n), size)
                    if strong({**sets_of(book), None: set(code)}, k)]
        self.assertEqual(free_codes(book, size, k), expected)
        return len(expected)

    def test_small_books(self):
        many = 0
        for book in small_books():
            if book.n <= 6:
                for size in (1, 2, 3, 4):
                    for k in (1, 2, 3, 14):
                        many += self.free(book, size, k)
        self.assertGreater(many, 1000)

    def test_sixteen_holes(self):
        dice = random.Random(53)
        many = 0
        for count, longest, k in ((14, 3, 1), (14, 8, 1), (9, 5, 2), (6, 5, 3), (14, 2, 14), (0, 1, 14)):
            book = random_book(dice, 16, count, longest)
            for size in (1, 2, 3, 4):
                many += self.free(book, size, k)
        for codes in ([(at,) for at in range(12)], [(at, 15) for at in range(12)], [(at, at + 1) for at in range(14)]):
            book = Book(16, dict(zip(FOURTEEN, codes)))
            for size, k in ((1, 1), (2, 1), (2, 14), (4, 2), (3, 3)):
                many += self.free(book, size, k)
        self.assertGreater(many, 1000)

    def test_few_holes(self):
        self.assertEqual([free_codes(Book(2, {}), size, 1) for size in (1, 2, 3, 4)], [[(0,), (1,)], [(0, 1)], [], []])

    def test_example(self):
        self.assertEqual([free_codes(pair_book(), 1, 1), free_codes(k=1, size=2, book=pair_book())], [[], [(0, 2)]])

    def test_size_and_count(self):
        for book in (sample(), Book(17, {})):
            for size in NO_COUNTS + (5, 14):
                self.assertEqual(raised(free_codes, book, size, 1), NO_COUNT)
            for k in NO_COUNTS:
                for size in (1, 2, 3, 4):
                    self.assertEqual(raised(free_codes, book, size, k), NO_COUNT)

    def test_more_holes(self):
        for n in (17, 18, 24):
            for book in (Book(n, {}), Book(n, {"a": (0,), "b": (0,)})):
                self.assertEqual(raised(free_codes, book, 1, 1), (LimitExceeded, {"limit": "holes"}))

    def test_what_was_returned_may_be_changed(self):
        free_codes(pair_book(), 2, 1).clear()
        self.assertEqual(free_codes(pair_book(), 2, 1), [(0, 2)])


class KeptTest(unittest.TestCase):
    """Point [73]."""

    def test_kept(self):
        book = sample()
        self.assertEqual(kept(book, [0, 1, 2, 4]), Book(6, {"ash": (0, 1), "bay": (1, 2), "cob": (0, 2), "dew": (4,)}))
        self.assertEqual(kept(holes=tuple(range(6)), book=book), book)
        self.assertEqual(book, sample())
        self.assertEqual(kept(Book(3, {}), ()), Book(3, {}))
        self.assertEqual(kept(pair_book(), (0, 2)).codes(), {"a": (0,), "b": (2,)})

    def test_small_books(self):
        dice = random.Random(54)
        for book in small_books():
            holes = sorted(dice.sample(range(book.n), dice.randint(0, book.n)))
            codes = {word: tuple(hole for hole in code if hole in holes) for word, code in book.codes().items()}
            empty = [word for word in book if not codes[word]]
            if empty:
                self.assertEqual(raised(kept, book, holes), (NothingLeft, {"what": empty[0]}))
            else:
                self.assertEqual(kept(book, dice.choice((list, tuple))(holes)), Book(book.n, codes))

    def test_the_first_word_without_holes(self):
        book = Book(4, {"z": (0,), "b": (1,), "ab": (1, 2), "a": (3,)})
        for holes, word in (((3,), "ab"), ((1, 3), "z"), ((), "a"), ((0, 2, 3), "b"), ((0, 1), "a")):
            self.assertEqual(raised(kept, book, holes), (NothingLeft, {"what": word}))

    def test_holes(self):
        for holes in NO_LISTS:
            self.assertEqual(raised(kept, sample(), holes), (InvalidHoles, {"at": -1}))
        for hole in NO_INTEGERS + (-1, 6, 10 ** 30, 1, 2):
            self.assertEqual(raised(kept, sample(), (1, 2, hole)), (InvalidHoles, {"at": 2}))
        self.assertEqual(raised(kept, sample(), [5, 5]), (InvalidHoles, {"at": 1}))

    def test_no_list_is_kept(self):
        holes = [0, 2]
        book = kept(pair_book(), holes)
        holes.clear()
        self.assertEqual(book.codes(), {"a": (0,), "b": (2,)})


class HolesTest(unittest.TestCase):
    """Point [74]."""

    def holes(self, book, k):
        everything = range(book.n)
        if not strong(sets_of(book), k):
            self.assertEqual([raised(needless_holes, book, k), raised(least_holes, book, k)], [NO_STRENGTH] * 2)
            return
        self.assertEqual(needless_holes(book, k), [hole for hole in everything
                                                   if enough_by_search(book, set(everything) - {hole}, k)])
        found = []
        for holes in subsets(everything):
            if not any(set(other) <= set(holes) for other in found) and enough_by_search(book, holes, k):
                found.append(holes)
        self.assertEqual(least_holes(book, k), found)

    def test_small_books(self):
        for book in small_books():
            if book.n <= 6:
                for k in (1, 2, 3, 14):
                    self.holes(book, k)

    def test_twelve_holes(self):
        dice = random.Random(55)
        several = 0
        for count, size in ((14, 6), (14, 3), (8, 5), (6, 4), (4, 8), (5, 8), (2, 8), (0, 1)):
            book = Book(12, {letter: sorted(dice.sample(range(12), size)) for letter in FOURTEEN[:count]})
            for k in (1, 2) if count > 4 else (1, 3, 14):
                self.holes(book, k)
                several += strong(sets_of(book), k) and len(least_holes(book, k)) > 1
        self.assertGreater(several, 5)
        self.holes(Book(12, {letter: (at, at + 1, at + 4) for at, letter in enumerate("abcdefgh")}), 1)
        self.holes(Book(12, {letter: (at,) for at, letter in enumerate("abcdefghijkl")}), 14)

    def test_needless_holes_of_large_books(self):
        for book in [*large_books(), Book(24, {letter: tuple(range(at, at + 8)) for at, letter in
                                               enumerate(FOURTEEN)})]:
            for k in (1, 2, 14):
                if strong(sets_of(book), k):
                    expected = [hole for hole in range(book.n)
                                if enough_by_search(book, set(range(book.n)) - {hole}, k)]
                    self.assertEqual(needless_holes(book, k), expected)
                else:
                    self.assertEqual(raised(needless_holes, book, k), NO_STRENGTH)

    def test_books_without_words(self):
        for k in (1, 14):
            self.assertEqual([needless_holes(Book(3, {}), k), least_holes(Book(3, {}), k)], [[0, 1, 2], [()]])

    def test_one_word(self):
        book = Book(4, {"a": (1, 3)})
        self.assertEqual([needless_holes(book, 14), least_holes(book, 14)], [[0, 1, 2, 3], [(1,), (3,)]])
        self.assertEqual([needless_holes(Book(2, {"a": (1,)}), 1), least_holes(Book(2, {"a": (1,)}), 1)], [[0], [(1,)]])

    def test_example(self):
        self.assertEqual([needless_holes(pair_book(), 1), least_holes(pair_book(), 1)], [[1], [(0, 2)]])
        self.assertEqual([needless_holes(k=1, book=pair_book()), least_holes(k=1, book=pair_book())], [[1], [(0, 2)]])

    def test_order(self):
        book = Book(6, {"a": (0, 3, 5), "b": (1, 2, 3)})
        self.assertEqual(least_holes(book, 1), [(0, 1), (0, 2), (1, 5), (2, 5)])
        book = Book(5, {"a": (0, 4), "b": (2, 3), "c": (0, 1, 2)})
        self.assertEqual(least_holes(book, 1), [(1, 3, 4), (0, 2, 3, 4)])

    def test_count(self):
        for book in (sample(), Book(13, {"a": (0,), "b": (0,)})):
            for k in NO_COUNTS:
                for call in (needless_holes, least_holes):
                    self.assertEqual(raised(call, book, k), NO_COUNT)

    def test_more_holes(self):
        for n in (13, 14, 24):
            for codes in ({}, {"a": (0,)}, {"a": (0,), "b": (0,)}):
                self.assertEqual(raised(least_holes, Book(n, codes), 1), (LimitExceeded, {"limit": "holes"}))
            self.assertEqual(raised(needless_holes, Book(n, {"a": (0,), "b": (0,)}), 1), NO_STRENGTH)
            self.assertEqual(needless_holes(Book(n, {"a": (0,)}), 1), list(range(1, n)))
        self.assertEqual(raised(least_holes, Book(12, {"a": (0,), "b": (0,)}), 1), NO_STRENGTH)

    def test_what_was_returned_may_be_changed(self):
        needless_holes(pair_book(), 1).clear()
        least_holes(pair_book(), 1).clear()
        self.test_example()


class LargestTest(unittest.TestCase):
    """Point [75]."""

    def largest(self, book, k):
        found = []
        codes = sets_of(book)
        for size in range(len(book), -1, -1):
            for words in combinations(book.words(), size):
                if not any(set(words) <= set(other) for other in found):
                    if strong({word: codes[word] for word in words}, k):
                        found.append(words)
        self.assertEqual(largest_words(book, k), [list(words) for words in found])

    def test_small_books(self):
        for book in small_books():
            for k in (1, 2, 3, 14):
                if len(book) <= 10:
                    self.largest(book, k)

    def test_ten_words(self):
        dice = random.Random(56)
        for n, longest in ((5, 3), (8, 4), (12, 8), (24, 8), (4, 1), (16, 5)):
            book = random_book(dice, n, 10, longest)
            for k in (1, 2, 3, 14):
                self.largest(book, k)
        self.largest(Book(1, {letter: (0,) for letter in "abcdefghij"}), 5)
        self.largest(Book(10, {letter: (at,) for at, letter in enumerate("abcdefghij")}), 14)

    def test_many_covers(self):
        dice = random.Random(59)
        codes = {letter: sorted(dice.sample(range(8), 4)) for letter in "abcdefghi"}
        for k in (2, 3, 4, 9):
            self.largest(Book(10, {**codes, "z": tuple(range(8))}), k)

    def test_books_without_words(self):
        self.assertEqual(largest_words(Book(3, {}), 1), [[]])

    def test_order(self):
        # Sets with more words come first, then the order of lists.
        book = Book(4, {"c": (0,), "aa": (1,), "b": (0, 1), "d": (2,), "dd": (2,)})
        self.assertEqual(largest_words(book, 1), [["aa", "c", "d"], ["aa", "c", "dd"], ["b", "d"], ["b", "dd"]])

    def test_example(self):
        book = Book(3, {"a": (0, 1), "b": (1, 2), "c": (0, 2)})
        self.assertEqual(largest_words(k=1, book=book), [["a", "b", "c"]])
        largest_words(book, 2)[0].clear()
        largest_words(book, 2).clear()
        self.assertEqual(largest_words(book, 2), [["a", "b"], ["a", "c"], ["b", "c"]])

    def test_count_and_more_words(self):
        for many in range(9, 15):
            book = Book(14, {letter: (at,) for at, letter in enumerate(FOURTEEN[:many])})
            for k in NO_COUNTS:
                self.assertEqual(raised(largest_words, book, k), NO_COUNT)
            if many > 10:
                self.assertEqual(raised(largest_words, book, 1), (LimitExceeded, {"limit": "words"}))
            else:
                self.assertEqual(largest_words(book, 14), [book.words()])


class StrongerTest(unittest.TestCase):
    """Point [76]."""

    def false_falls(self, book, k):
        """All pairs of a card of at most k words and a word that it shows falsely."""
        return {(words, word) for words, holes in cards_by_search(book, k).items() for word in book
                if word not in words and set(book.code(word)) <= holes}

    def compared(self, one, other, k):
        found = stronger(one, other, k)
        apart = self.false_falls(one, k) - self.false_falls(other, k)
        if not apart:
            self.assertIsNone(found)
            return 0
        self.assertEqual([found.__class__, len(found), found[1].__class__], [tuple, 2, list])
        word, cover = found
        self.assertEqual(cover, sorted(set(cover)))
        self.assertIn((tuple(cover), word), apart)
        return 1

    def test_small_books(self):
        dice = random.Random(57)
        wrong = 0
        for at, book in enumerate(small_books()):
            n = dice.randint(1, 9)
            if len(book) <= 7:
                other = Book(n, {word: sorted(dice.sample(range(n), dice.randint(1, min(n, 4)))) for word in book})
                for k in (1, 2, 3, 14):
                    wrong += self.compared(book, other, k)
                    wrong += self.compared(other, book, k)
        self.assertGreater(wrong, 200)

    def test_fourteen_words(self):
        books = list(large_books())
        for one in books:
            for other in books:
                for k in (1, 3):
                    self.compared(one, other, k)
        self.assertEqual([stronger(one, one, 14) for one in books], [None] * 4)
        self.compared(books[2], books[3], 14)

    def test_least_difference(self):
        one = Book(3, {"a": (0, 1), "b": (1, 2), "c": (0, 2)})
        other = Book(3, {"a": (0,), "b": (1,), "c": (2,)})
        self.assertEqual([stronger(one, other, 1), stronger(other, one, 1), stronger(k=2, other=one, one=other)],
                         [None] * 3)
        word, cover = stronger(one, other, 2)
        self.assertEqual(sorted([word] + cover), ["a", "b", "c"])
        self.assertEqual(stronger(Book(2, {"a": (0,), "b": (0, 1)}), Book(2, {"a": (0,), "b": (1,)}), 1), ("a", ["b"]))

    def test_books_without_words(self):
        self.assertIsNone(stronger(Book(3, {}), Book(5, {}), 1))

    def test_other_words(self):
        one = Book(3, {"a": (0, 1), "b": (1, 2)})
        for codes in ({}, {"a": (0,)}, {"a": (0, 1), "c": (1, 2)}, {"a": (0, 1), "b": (1, 2), "c": (0,)}):
            other = Book(3, codes)
            for k in (1,) + NO_COUNTS:
                self.assertEqual(raised(stronger, one, other, k), (InvalidWords, {"at": -1}))
                self.assertEqual(raised(stronger, other, one, k), (InvalidWords, {"at": -1}))

    def test_count(self):
        for k in NO_COUNTS:
            self.assertEqual(raised(stronger, sample(), sample(), k), NO_COUNT)

    def test_what_was_returned_may_be_changed(self):
        books = (Book(2, {"a": (0,), "b": (0, 1)}), Book(2, {"a": (0,), "b": (1,)}), 1)
        stronger(*books)[1].clear()
        self.assertEqual(stronger(*books), ("a", ["b"]))


class FactsTest(unittest.TestCase):
    """Point [77]."""

    def test_may_add(self):
        dice = random.Random(58)
        for book in some_books():
            if len(book) < 14:
                for k in (1, 2, 3):
                    code = sorted(dice.sample(range(book.n), dice.randint(1, min(book.n, 4))))
                    more = strength(book.with_word("new", code))
                    self.assertEqual(may_add(book, code, k) is None, more is None or more >= k)
                    if strength(book) is not None and strength(book) < k:
                        self.assertIsNotNone(may_add(book, code, k))

    def test_holes(self):
        for book in some_books():
            for k in (1, 2):
                if strength(book) is None or strength(book) >= k:
                    found = least_holes(book, k)
                    needless = needless_holes(book, k)
                    self.assertEqual(needless, [hole for hole in range(book.n)
                                                if any(hole not in holes for holes in found)])
                    self.assertEqual(found == [tuple(range(book.n))], needless == [])
                    for holes in found:
                        one = kept(book, holes)
                        self.assertTrue(strength(one) is None or strength(one) >= k)

    def test_needless_holes_together(self):
        book = Book(3, {"a": (0, 1), "b": (2,)})
        self.assertEqual([needless_holes(book, 1), least_holes(book, 1)], [[0, 1], [(0, 2), (1, 2)]])

    def test_words(self):
        for book in some_books():
            for k in (1, 2):
                if len(book) <= 10:
                    found = largest_words(book, k)
                    self.assertEqual(found == [book.words()], strength(book) is None or strength(book) >= k)
                    for words in found[:3]:
                        for part in subsets(words)[::5]:
                            codes = {word: book.code(word) for word in part}
                            part_strength = strength(Book(book.n, codes))
                            self.assertTrue(part_strength is None or part_strength >= k)

    def test_stronger(self):
        for book in some_books():
            for k in (1, 2, 14):
                for holes in subsets(range(book.n))[::7]:
                    if raised(kept, book, holes) is None:
                        other = kept(book, holes)
                        self.assertIsNone(stronger(book, other, k))
                        if strength(other) is None or strength(other) >= k:
                            self.assertTrue(strength(book) is None or strength(book) >= k)


if __name__ == "__main__":
    unittest.main()
