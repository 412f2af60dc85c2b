"""Points [40] to [47]: reading a card back."""

import random
import unittest
from itertools import combinations

from needledrop.books import Book, notches, shown
from needledrop.covers import strength
from needledrop.errors import InvalidCount, InvalidHoles, LimitExceeded, NothingLeft
from needledrop.reading import barred_words, closest, count_readings, each_reading, first_reading, least_torn
from needledrop.reading import maybe_words, sources, sure_words, twins
from helper import NO_COUNTS, NO_INTEGERS, NO_LISTS, cards_by_search, example, large_books, raised, random_book
from helper import sample, small_books, some_books, subsets

TOO_MANY = (LimitExceeded, {"limit": "readings"})
NO_READING = (NothingLeft, {"what": "reading"})
NO_TORN = NO_INTEGERS + NO_LISTS[:5] + (-1, 4, 14, 10 ** 30, "0", {0: 1}, sample())


def listed(book, holes, k, **more):
    """The readings that each_reading yields, in a list."""
    return list(each_reading(book, holes, k, **more))


READERS = (count_readings, first_reading, listed, sure_words, maybe_words, barred_words)


def letters(codes):
    """A book of 4 holes that has these codes for a, b, c and so on."""
    return Book(4, dict(zip("abcdefghijklmn", codes)))


def just_400():
    """25 ways for a to e to hold 0 and 1, and 16 ways to choose of f to i, beside z."""
    return Book(4, {"a": (0,), "b": (0,), "c": (1,), "d": (1,), "e": (0, 1), "z": (2, 3),
                    "f": (2,), "g": (2,), "h": (2,), "i": (2,)})


def just_401():
    """By at most 5 words."""
    return letters([(0, 3), (0, 1), (1, 3), (2,), (0, 1), (0,), (2,), (2,), (1, 3), (0, 3)])


class SearchTest(unittest.TestCase):
    """Answers compared with a look at all sets of words."""

    def answers(self, book, cards, holes, k, torn):
        found = [list(words) for words, open_holes in cards.items()
                 if len(words) <= k and open_holes <= set(holes) and len(set(holes) - open_holes) <= torn]
        self.assertEqual(count_readings(book, holes, k, torn=torn), len(found))
        self.assertEqual(first_reading(book, holes, k, torn=torn), found[0] if found else None)
        if len(found) > 400:
            self.assertEqual(raised(listed, book, holes, k, torn=torn), TOO_MANY)
        else:
            self.assertEqual(listed(book, holes, k, torn=torn), found)
        if not found:
            for call in (sure_words, maybe_words, barred_words):
                self.assertEqual(raised(call, book, holes, k, torn=torn), NO_READING)
            return
        numbers = {word: sum(word in words for words in found) for word in book}
        self.assertEqual(sure_words(book, holes, k, torn=torn), [word for word in book if numbers[word] == len(found)])
        self.assertEqual(maybe_words(book, holes, k, torn=torn),
                         [word for word in book if 0 < numbers[word] < len(found)])
        self.assertEqual(barred_words(book, holes, k, torn=torn), [word for word in book if numbers[word] == 0])

    def least_torn(self, book, cards, holes, k):
        expected = min(len(set(holes) - open_holes) for words, open_holes in cards.items()
                       if len(words) <= k and open_holes <= set(holes))
        self.assertEqual(least_torn(book, holes, k), expected)

    def test_small_books(self):
        dice = random.Random(11)
        for book in small_books():
            cards = cards_by_search(book, 14)
            many = list(cards.values())
            for _ in range(4 if len(book) < 8 else 2):
                holes = sorted(set(dice.choice(many)) | set(dice.sample(range(book.n), dice.randint(0, 1))))
                k = dice.choice((1, 2, 3, 4, 14))
                self.answers(book, cards, dice.choice((list, tuple))(holes), k, dice.randint(0, 3))
                self.least_torn(book, cards, holes, k)

    def test_all_holes_of_some_books(self):
        for book in some_books()[::4]:
            if book.n <= 5:
                cards = cards_by_search(book, 14)
                for holes in subsets(range(book.n)):
                    for k in (1, 2, 14):
                        self.least_torn(book, cards, holes, k)
                        for torn in range(4):
                            self.answers(book, cards, holes, k, torn)

    def test_large_books(self):
        for book in large_books():
            cards = cards_by_search(book, 14)
            for holes in (tuple(range(book.n)), list(notches(book, ["a", "n", "d"])), (), [0, 1, 2, 4, 5, 7]):
                for k, torn in ((14, 0), (14, 3), (3, 0), (4, 2), (1, 1)):
                    self.answers(book, cards, holes, k, torn)
                    self.least_torn(book, cards, holes, k)

    def twins(self, book, k, cards):
        pair = twins(book, k)
        groups = {}
        for words, open_holes in cards.items():
            if len(words) <= k:
                groups.setdefault(frozenset(open_holes), []).append(list(words))
        if max(len(group) for group in groups.values()) == 1:
            self.assertIsNone(pair)
        else:
            self.assertEqual([pair.__class__, [words.__class__ for words in pair]], [tuple, [list, list]])
            first, second = pair
            self.assertNotEqual(first, second)
            self.assertIn(first, groups[frozenset(notches(book, first))])
            self.assertIn(second, groups[frozenset(notches(book, first))])

    def test_twins(self):
        for book in small_books():
            cards = cards_by_search(book, 14)
            for k in range(1, min(len(book), 4) + 1):
                self.twins(book, k, cards)
            self.twins(book, 14, cards)

    def test_twins_of_large_books(self):
        for book in large_books():
            cards = cards_by_search(book, 14)
            for k in (1, 2, 3, 7, 14):
                self.twins(book, k, cards)

    def gap(self, one, other):
        return max(len(one - other), len(other - one))

    def closest(self, book, k):
        cards = cards_by_search(book, k)
        told = closest(book, k)
        self.assertEqual([told.__class__, [item.__class__ for item in told]], [tuple, [int, list, list]])
        gap, first, second = told
        self.assertEqual(gap, min(self.gap(*pair) for pair in combinations(cards.values(), 2)))
        self.assertNotEqual(first, second)
        self.assertEqual(gap, self.gap(cards[tuple(first)], cards[tuple(second)]))

    def test_closest(self):
        for book in some_books():
            if 0 < len(book) <= 5:
                for k in (1, 2, 3, 14):
                    self.closest(book, k)

    def test_closest_of_eight_words(self):
        dice = random.Random(2)
        for n in (8, 16, 24):
            book = random_book(dice, n, 8, 8)
            for k in (2, 8, 14):
                self.closest(book, k)
        self.closest(Book(24, {letter: (3 * at, 3 * at + 1, 3 * at + 2) for at, letter in enumerate("abcdefgh")}), 14)


class ReadingsTest(unittest.TestCase):
    def test_by_name(self):
        for call, expected in ((count_readings, 1), (first_reading, ["a"]), (listed, [["a"]]), (sure_words, ["a"]),
                               (maybe_words, []), (barred_words, ["b", "c", "d"])):
            self.assertEqual(call(torn=1, k=2, holes=(0, 1, 3), book=example()), expected)

    def test_order(self):
        book = Book(3, {"b": (0, 1), "ab": (0,), "a": (1,), "c": (0, 1), "aa": (1,)})
        self.assertEqual(listed(book, [0, 1], 2), [["b"], ["c"], ["a", "ab"], ["a", "b"], ["a", "c"], ["aa", "ab"],
                                                   ["aa", "b"], ["aa", "c"], ["ab", "b"], ["ab", "c"], ["b", "c"]])
        self.assertEqual(listed(book, (0, 1), 1, torn=1), [["a"], ["aa"], ["ab"], ["b"], ["c"]])
        self.assertEqual(listed(book, (0, 1), 1, torn=2), [[], ["a"], ["aa"], ["ab"], ["b"], ["c"]])

    def test_no_holes(self):
        for book in (example(), Book(1, {}), *large_books()):
            for torn in range(4):
                self.assertEqual(listed(book, [], 14, torn=torn), [[]])
                self.assertEqual([count_readings(book, (), 1, torn=torn), first_reading(book, (), 2, torn=torn)],
                                 [1, []])
            self.assertEqual([sure_words(book, (), 3), maybe_words(book, (), 3), barred_words(book, [], 3)],
                             [[], [], book.words()])
            self.assertEqual([sources(book, ()), least_torn(book, (), 1)], [{}, 0])

    def test_no_reading(self):
        book = example()
        self.assertEqual([count_readings(book, (0, 1, 3), 2), first_reading(book, (0, 1, 3), 2),
                          listed(book, (0, 1, 3), 2)], [0, None, []])
        self.assertEqual(listed(book, (0, 1, 3), 2, torn=1), [["a"]])

    def test_words_with_other_holes_are_in_no_reading(self):
        self.assertEqual(listed(example(), (0, 1), 14, torn=2), [[], ["a"]])

    def test_torn_holes_up_to_three(self):
        book = Book(6, {"a": (0,)})
        self.assertEqual([listed(book, (0, 1, 2, 3), 1, torn=torn) for torn in range(4)], [[], [], [], [["a"]]])
        self.assertEqual([listed(book, (1, 2, 3), 1, torn=torn) for torn in range(4)], [[], [], [], [[]]])
        self.assertEqual([listed(book, (0, 1, 2), 1, torn=torn) for torn in range(4)],
                         [[], [], [["a"]], [[], ["a"]]])

    def test_example(self):
        book = example()
        self.assertEqual(shown(book, (0, 1, 2)), ["a", "b", "d"])
        self.assertEqual(listed(book, (0, 1, 2), 2), [["a", "b"], ["a", "d"], ["b", "d"]])
        self.assertEqual([maybe_words(book, (0, 1, 2), 2), barred_words(book, (0, 1, 2), 2)], [["a", "b", "d"], ["c"]])
        self.assertEqual(listed(book, (0, 1, 2), 3)[3:], [["a", "b", "d"]])
        self.assertEqual(sources(book, [0, 1, 2]), {0: ["a", "d"], 1: ["a", "b"], 2: ["b", "d"]})

    def test_four_hundred_readings(self):
        book = just_400()
        self.assertEqual(count_readings(book, (0, 1, 2, 3), 14), 400)
        found = listed(book, (0, 1, 2, 3), 14)
        self.assertEqual([len(found), found[0], found[-1]], [400, ["e", "z"], book.words()])
        self.assertEqual(found, sorted(found, key=lambda words: (len(words), words)))

    def test_more_readings(self):
        book = just_401()
        self.assertEqual(count_readings(book, (0, 1, 2, 3), 5), 401)
        self.assertEqual(raised(listed, book, (0, 1, 2, 3), 5), TOO_MANY)
        readings = each_reading(just_400(), (0, 1, 2, 3), 14, torn=1)
        with self.assertRaises(LimitExceeded):
            next(readings)
        self.assertEqual(first_reading(book, (0, 1, 2, 3), 5), ["a", "b", "d"])
        self.assertEqual(barred_words(book, (0, 1, 2, 3), 5), [])

    def test_most_readings(self):
        book = letters([(0,)] * 14)
        self.assertEqual([count_readings(book, [0], 14), count_readings(book, [0], 14, torn=1)], [16383, 16384])
        self.assertEqual(raised(listed, book, [0], 14), TOO_MANY)
        self.assertEqual([first_reading(book, [0], 14), first_reading(book, [0], 14, torn=1)], [["a"], []])
        self.assertEqual([sure_words(book, [0], 14), maybe_words(book, [0], 14)], [[], book.words()])

    def test_a_generator_of_new_lists(self):
        book = example()
        readings = each_reading(book, (0, 1, 2), 2)
        first = next(readings)
        first.clear()
        self.assertEqual(list(readings), [["a", "d"], ["b", "d"]])
        self.assertEqual(listed(book, (0, 1, 2), 2)[0], ["a", "b"])

    def test_what_was_returned_may_be_changed(self):
        book = example()
        for call in (first_reading, sure_words, maybe_words, barred_words):
            expected = list(call(book, (0, 1, 2), 2))
            call(book, (0, 1, 2), 2).append("x")
            self.assertEqual(call(book, (0, 1, 2), 2), expected)
        sources(book, (0, 1))[0].clear()
        sources(book, (0, 1)).clear()
        self.assertEqual(sources(book, (0, 1)), {0: ["a"], 1: ["a"]})

    def test_holes_are_not_changed(self):
        holes = [0, 1, 2]
        for call in READERS + (least_torn,):
            call(example(), holes, 2)
        sources(example(), holes)
        self.assertEqual(holes, [0, 1, 2])


class SourcesTest(unittest.TestCase):
    def test_sources(self):
        self.assertEqual(sources(holes=[0, 1, 3], book=example()), {0: ["a"], 1: ["a"], 3: []})
        self.assertEqual(list(sources(example(), (1, 2, 3)).items()), [(1, ["b"]), (2, ["b", "c"]), (3, ["c"])])
        for book in some_books() + list(large_books()):
            for holes in (list(range(book.n)), tuple(range(0, book.n, 2)), [book.n - 1]):
                expected = [(hole, [word for word in shown(book, holes) if hole in book.code(word)]) for hole in holes]
                self.assertEqual(list(sources(book, holes).items()), expected)

    def test_least_torn_beyond_three(self):
        book = Book(24, {"a": (0, 1)})
        self.assertEqual(least_torn(k=1, holes=list(range(24)), book=book), 22)
        self.assertEqual(least_torn(book, tuple(range(1, 24)), 14), 23)
        self.assertEqual(least_torn(Book(6, {}), [0, 1, 2, 3, 4, 5], 1), 6)

    def test_least_torn_of_few_words(self):
        book = Book(9, {"a": (0, 1, 2, 3), "b": (0, 1, 4, 5), "c": (2, 3, 6, 7, 8)})
        self.assertEqual([least_torn(book, list(range(9)), k) for k in (1, 2, 3, 14)], [4, 0, 0, 0])
        self.assertEqual([least_torn(book, list(range(8)), k) for k in (1, 2, 14)], [4, 2, 2])


class PairsTest(unittest.TestCase):
    def test_no_words(self):
        for k in (1, 14):
            self.assertEqual([twins(Book(3, {}), k), closest(Book(3, {}), k)], [None, None])

    def test_one_word(self):
        book = Book(5, {"a": (1, 2, 4)})
        for k in (1, 14):
            self.assertIsNone(twins(k=k, book=book))
            self.assertIn(closest(k=k, book=book), [(3, [], ["a"]), (3, ["a"], [])])

    def test_the_same_code(self):
        book = Book(2, {"b": (0,), "a": (0,), "c": (1,)})
        self.assertIn(twins(book, 1), [(["a"], ["b"]), (["b"], ["a"])])
        self.assertIn(closest(book, 1), [(0, ["a"], ["b"]), (0, ["b"], ["a"])])

    def test_the_greater_number_counts(self):
        # a and b are 3 and 1 apart, a and no word 4, b and no word 2.
        book = Book(6, {"a": (0, 1, 2, 3), "b": (0, 4)})
        self.assertEqual([closest(book, 1)[0], sorted(closest(book, 1)[1:])], [2, [[], ["b"]]])
        self.assertEqual([closest(book, 2)[0], sorted(closest(book, 2)[1:])], [1, [["a"], ["a", "b"]]])

    def test_at_most_k_words(self):
        book = example()
        self.assertIsNone(twins(book, 1))
        first, second = twins(book, 2)
        self.assertEqual([notches(book, first), notches(book, second), first == second], [(0, 1, 2), (0, 1, 2), False])
        self.assertEqual([closest(book, 1)[0], closest(book, 2)[0]], [1, 0])

    def test_more_than_eight_words(self):
        codes = [(at % 4,) for at in range(14)]
        for many in range(1, 15):
            expected = None if many <= 8 else (LimitExceeded, {"limit": "words"})
            for k in (1, 3):
                self.assertEqual(raised(closest, letters(codes[:many]), k), expected)
            self.assertEqual(raised(closest, letters(codes[:many]), 0), (InvalidCount, {}))

    def test_what_was_returned_may_be_changed(self):
        book = example()
        for words in twins(book, 2) + closest(book, 2)[1:]:
            words.append("x")
        self.assertTrue(all(word in book for words in twins(book, 2) + closest(book, 2)[1:] for word in words))


class WrongTest(unittest.TestCase):
    def holes(self, holes, at):
        error = (InvalidHoles, {"at": at})
        for k in (1, None):
            for call in READERS:
                for torn in (0, None):
                    self.assertEqual(raised(call, sample(), holes, k, torn=torn), error, holes)
            self.assertEqual(raised(least_torn, sample(), holes, k), error, holes)
        self.assertEqual(raised(sources, sample(), holes), error, holes)

    def test_holes_are_a_list(self):
        for holes in NO_LISTS + (sample(),):
            self.holes(holes, -1)

    def test_holes_are_ascending_integers(self):
        for hole in NO_INTEGERS + (-1, 6, 10 ** 30, sample()):
            self.holes([hole], 0)
            self.holes((0, 2, hole, None), 2)
        self.holes([0, 0], 1)
        self.holes((1, 3, 2, 9), 2)
        self.holes([0, 1, 2, 3, 4, 5, 6], 6)

    def test_count(self):
        for k in NO_COUNTS:
            for torn in (0, 9, True):
                for call in READERS:
                    self.assertEqual(raised(call, sample(), (0, 3), k, torn=torn), (InvalidCount, {}), k)
            self.assertEqual(raised(least_torn, sample(), (0, 3), k), (InvalidCount, {}), k)
            self.assertEqual([raised(twins, sample(), k), raised(closest, sample(), k)], [(InvalidCount, {})] * 2)

    def test_torn(self):
        for call in READERS:
            for holes in ((), [0, 1], (0, 3), [0, 1, 2, 3, 4, 5]):
                for torn in NO_TORN:
                    self.assertEqual(raised(call, sample(), holes, 14, torn=torn), (InvalidCount, {}), torn)
            for torn in range(4):
                self.assertIsNone(raised(call, sample(), (0, 1), 14, torn=torn))

    def test_torn_is_passed_by_name(self):
        for call in (count_readings, first_reading, sure_words, maybe_words, barred_words):
            with self.assertRaises(TypeError):
                call(sample(), (0, 1), 2, 0)
        with self.assertRaises(TypeError):
            list(each_reading(sample(), (0, 1), 2, 0))

    def test_limits_come_last(self):
        book = just_401()
        self.assertEqual(raised(listed, book, (0, 1, 2, 3), 5, torn=4), (InvalidCount, {}))
        self.assertEqual(raised(listed, book, (0, 1, 2, 3), 15), (InvalidCount, {}))
        self.assertEqual(raised(listed, book, (0, 1, 2, 4), 5), (InvalidHoles, {"at": 3}))
        for call in (sure_words, maybe_words, barred_words):
            self.assertEqual(raised(call, sample(), (3,), 1), NO_READING)
            self.assertEqual(raised(call, sample(), (3,), 1, torn=4), (InvalidCount, {}))
            self.assertEqual(raised(call, sample(), (3,), 0), (InvalidCount, {}))
            self.assertEqual(raised(call, sample(), (3, 3), 1), (InvalidHoles, {"at": 1}))


class FactsTest(unittest.TestCase):
    """Point [47]."""

    def test_one_more_word(self):
        for book in some_books()[::3]:
            if len(book) < 7:
                holes = tuple(range(0, book.n, 2)) + ((book.n - 1,) if book.n % 2 == 0 else ())
                for torn in (0, 1, 3):
                    found = listed(book, holes, 3, torn=torn)
                    falling = shown(book, holes)
                    for words in found:
                        self.assertLessEqual(set(words), set(falling))
                        if len(words) < 3:
                            for word in falling:
                                self.assertIn(sorted({*words, word}), found)

    def test_sources(self):
        for book in some_books()[::2]:
            for holes in (tuple(range(book.n)), notches(book, book.words()[:2]), tuple(range(1, book.n))):
                found = sources(book, holes)
                bare = [hole for hole in holes if not found[hole]]
                self.assertEqual(least_torn(book, holes, 14), len(bare))
                alone = {words[0] for words in found.values() if len(words) == 1}
                if first_reading(book, holes, 4) is not None:
                    self.assertLessEqual(alone, set(sure_words(book, holes, 4)))
                if count_readings(book, holes, 14, torn=3) <= 400:
                    for words in each_reading(book, holes, 14, torn=3):
                        self.assertFalse(set(bare) & set(notches(book, words)))

    def test_strong_books_have_no_twins(self):
        for book in some_books():
            found = strength(book)
            for k in (1, 2, 3, 4):
                if found is None or found >= k:
                    self.assertIsNone(twins(book, k))
                    for words in cards_by_search(book, min(k, 2)):
                        self.assertEqual(listed(book, notches(book, words), 14), [list(words)])
                if twins(book, k) is None:
                    self.assertTrue(found is None or found >= k - 1)

    def test_gap_and_twins(self):
        for book in some_books():
            if 0 < len(book) <= 8:
                for k in (1, 2, 3):
                    self.assertEqual(closest(book, k)[0] == 0, twins(book, k) is not None)

    def test_gap_and_further_holes(self):
        for book in [book for book in some_books() if 0 < len(book) <= 8][::2]:
            for k in (1, 2):
                gap, first, second = closest(book, k)
                cards = cards_by_search(book, k)
                for torn in range(min(gap, 4)):
                    for words, open_holes in list(cards.items())[:8]:
                        free = [hole for hole in range(book.n) if hole not in open_holes]
                        for more in [part for part in subsets(free) if len(part) <= torn]:
                            holes = sorted(open_holes | set(more))
                            self.assertEqual(listed(book, holes, k, torn=torn), [list(words)])
                if 0 < gap < 4:
                    both = sorted(cards[tuple(first)] | cards[tuple(second)])
                    found = listed(book, both, k, torn=gap)
                    self.assertTrue(first in found and second in found)


if __name__ == "__main__":
    unittest.main()
