"""Points [2] and [5] to [9]: books, and the checks of words, holes and counts."""

import unittest

from needledrop.books import Book, false_words, falls, notches, shown
from needledrop.checks import check_count
from needledrop.covers import cover_of, is_cover, least_covers
from needledrop.errors import InvalidBook, InvalidCount, InvalidHoles, InvalidWords, UnknownWord
from helper import NO_CODES, NO_INTEGERS, NO_LISTS, NO_WORDS, ODD_THINGS, raised, sample

FOURTEEN = {letter: (at,) for at, letter in enumerate("abcdefghijklmn")}


class MakeTest(unittest.TestCase):
    def wrong(self, why, at, n, codes):
        self.assertEqual(raised(Book, n, codes), (InvalidBook, {"why": why, "at": at}), (n, codes))

    def test_by_name_and_by_position(self):
        self.assertEqual(Book(codes={"a": (0,)}, n=3), Book(3, {"a": (0,)}))

    def test_number_of_holes(self):
        self.assertEqual([Book(n, {}).n for n in (1, 2, 23, 24)], [1, 2, 23, 24])
        for n in (0, 25, -1, 10 ** 30) + NO_INTEGERS:
            self.wrong("holes", None, n, {})

    def test_least_and_greatest_hole(self):
        self.assertEqual(Book(24, {"a": (0, 23)}).code("a"), (0, 23))
        self.assertEqual(Book(1, {"a": [0]}).code("a"), (0,))
        self.wrong("code", "a", 24, {"a": (0, 24)})
        self.wrong("code", "a", 1, {"a": (1,)})

    def test_codes_are_a_dict(self):
        for codes in ODD_THINGS + (0, "ash", [], (), [("a", (0,))]):
            self.wrong("codes", None, 3, codes)

    def test_number_of_words(self):
        self.assertEqual(len(Book(14, {})), 0)
        self.assertEqual(len(Book(14, FOURTEEN)), 14)
        self.wrong("codes", None, 14, {**FOURTEEN, "o": (0,)})
        self.wrong("codes", None, 14, {**FOURTEEN, 5: None})

    def test_words(self):
        self.assertEqual(Book(2, {"abcdefgh": (0,), "z": (1,)}).words(), ["abcdefgh", "z"])
        keys = (None, True, 0, 1.5, b"ash", (), ("ash",), frozenset(("ash",)), "", "Ash", "aSh", "a b", "a1", " a",
                "a\n", "\n", "abcdefghi", "a_b", "{", "`", "@")
        for key in keys:
            self.wrong("word", key, 3, {key: (0,)})

    def test_codes(self):
        for length in (1, 8):
            self.assertEqual(Book(9, {"a": list(range(length))}).code("a"), tuple(range(length)))
        for code in NO_CODES:
            self.wrong("code", "a", 9, {"a": code})

    def test_two_words_may_have_the_same_code(self):
        self.assertEqual(Book(3, {"a": (0, 2), "b": [0, 2]}).codes(), {"a": (0, 2), "b": (0, 2)})

    def test_what_is_due_first(self):
        self.wrong("holes", None, 0, [])
        self.wrong("holes", None, True, {"A": ()})
        self.wrong("code", "b", 3, {"a": (0,), "b": (3,), "C": (0,)})
        self.wrong("word", "C", 3, {"a": (0,), "C": (0,), "b": (3,)})
        self.wrong("word", "C", 3, {"C": (3,)})
        self.wrong("code", "z", 3, {"z": (), "a": ()})

    def test_later_changes_have_no_effect(self):
        code = [0, 1]
        codes = {"a": code, "b": (2,)}
        book = Book(3, codes)
        code.append(2)
        codes["c"] = (0,)
        del codes["b"]
        self.assertEqual(book.codes(), {"a": (0, 1), "b": (2,)})


class MethodsTest(unittest.TestCase):
    def test_words_code_and_codes(self):
        book = sample()
        self.assertEqual(book.words(), ["ash", "bay", "cob", "dew"])
        self.assertEqual([book.code("ash"), book.code(word="dew")], [(0, 1), (3, 4, 5)])
        self.assertEqual(list(book.codes().items()),
                         [("ash", (0, 1)), ("bay", (1, 2)), ("cob", (0, 2)), ("dew", (3, 4, 5))])

    def test_words_are_ordered_as_strings(self):
        book = Book(2, {"b": (0,), "aa": (1,), "ab": (0,), "a": (1,), "aaz": (0,)})
        self.assertEqual(book.words(), ["a", "aa", "aaz", "ab", "b"])

    def test_what_was_returned_may_be_changed(self):
        book = sample()
        book.words().append("elm")
        book.codes()["ash"] = (5,)
        book.codes().clear()
        self.assertIsNot(book.words(), book.words())
        self.assertIsNot(book.codes(), book.codes())
        self.assertEqual(book, sample())

    def test_unknown_words(self):
        book = sample()
        for word in NO_WORDS + ("elm", "as", "ashes"):
            for call in (book.code, book.without):
                self.assertEqual(raised(call, word), (UnknownWord, {"word": word}))

    def test_with_word_adds_and_replaces(self):
        book = sample()
        more = book.with_word("bee", [0, 5])
        self.assertEqual(more.words(), ["ash", "bay", "bee", "cob", "dew"])
        self.assertEqual([more.n, more.code("bee"), more.code("dew")], [6, (0, 5), (3, 4, 5)])
        other = book.with_word(code=(2,), word="cob")
        self.assertEqual(other, Book(6, {"ash": (0, 1), "bay": (1, 2), "cob": (2,), "dew": (3, 4, 5)}))
        self.assertEqual(book, sample())

    def test_with_word_keeps_no_list(self):
        code = [0, 1]
        book = sample().with_word("elm", code)
        code.append(2)
        self.assertEqual(book.code("elm"), (0, 1))

    def test_with_word_up_to_fourteen(self):
        book = Book(14, FOURTEEN)
        self.assertEqual(book.with_word("n", (0, 1)).code("n"), (0, 1))
        self.assertEqual(len(book.without("a").with_word("zz", (5,))), 14)
        self.assertEqual(raised(book.with_word, "o", (0,)), (InvalidBook, {"why": "codes", "at": None}))

    def test_with_word_what_is_due_first(self):
        book = Book(14, FOURTEEN)
        for word in NO_WORDS:
            self.assertEqual(raised(book.with_word, word, None), (InvalidBook, {"why": "word", "at": word}))
        for code in ((), (14,), None, (True,)):
            self.assertEqual(raised(book.with_word, "o", code), (InvalidBook, {"why": "code", "at": "o"}))
        for code in NO_CODES:
            self.assertEqual(raised(Book(9, {}).with_word, "a", code), (InvalidBook, {"why": "code", "at": "a"}))

    def test_without(self):
        book = sample()
        self.assertEqual(book.without(word="bay"), Book(6, {"ash": (0, 1), "cob": (0, 2), "dew": (3, 4, 5)}))
        self.assertEqual(Book(2, {"a": (0,)}).without("a"), Book(2, {}))
        self.assertEqual(book, sample())


class SignsTest(unittest.TestCase):
    def test_equal(self):
        one = Book(3, {"a": (0, 1), "b": (2,)})
        self.assertTrue(one == Book(3, {"b": [2], "a": [0, 1]}))
        self.assertFalse(one != Book(3, {"b": [2], "a": [0, 1]}))
        for other in (Book(4, {"a": (0, 1), "b": (2,)}), Book(3, {"a": (0, 1)}), Book(3, {"a": (0, 1), "c": (2,)}),
                      Book(3, {"a": (0,), "b": (2,)}), Book(3, {"a": (2,), "b": (0, 1)}), Book(3, {})):
            self.assertFalse(one == other)
            self.assertTrue(one != other)

    def test_a_book_equals_nothing_else(self):
        class Yes:
            def __eq__(self, other):
                return True
        book = Book(3, {"a": (0,)})
        for other in NO_LISTS + (["a"], ("a",), {"a": (0,)}, (3, {"a": (0,)}), Yes()):
            self.assertIs(book == other, False)

    def test_in(self):
        book = sample()
        self.assertEqual([word in book for word in ("ash", "dew", "elm", "as")], [True, True, False, False])
        for thing in NO_WORDS + (("ash", "bay"), sample(), [0, 1], (0, 1)):
            self.assertIs(thing in book, False)

    def test_len_and_iteration(self):
        book = sample()
        self.assertEqual([len(book), list(book), [word for word in book]], [4, book.words(), book.words()])
        self.assertEqual([len(Book(1, {})), list(Book(1, {}))], [0, []])
        self.assertEqual([(one, two) for one in book for two in book if one > two][:2],
                         [("bay", "ash"), ("cob", "ash")])


class ChecksTest(unittest.TestCase):
    def test_word(self):
        book = sample()
        for word in NO_WORDS + ("elm",):
            for call in (lambda: falls(book, (0,), word), lambda: is_cover(book, word, []),
                         lambda: cover_of(book, word), lambda: least_covers(book, word)):
                self.assertEqual(raised(call), (UnknownWord, {"word": word}))

    def words(self, book, words, error, **attributes):
        for call in (notches, false_words):
            self.assertEqual(raised(call, book, words), (error, attributes), words)

    def test_words_are_a_list_of_at_most_fourteen(self):
        book = Book(14, FOURTEEN)
        for words in NO_LISTS + (list(FOURTEEN) + ["o"], ("a",) * 15, [None] * 15):
            self.words(book, words, InvalidWords, at=-1)
        self.assertEqual(notches(book, list(reversed(book.words()))), tuple(range(14)))
        self.words(book, ["zz"] + book.words()[1:], UnknownWord, word="zz")

    def test_words_are_different_words(self):
        book = sample()
        for word in NO_WORDS:
            self.words(book, [word], InvalidWords, at=0)
            self.words(book, ("ash", "bay", word, None), InvalidWords, at=2)
        self.words(book, ["ash", "bay", "ash"], InvalidWords, at=2)
        self.words(book, ["ash", "ash", 5], InvalidWords, at=1)
        self.words(book, ["ash", ["bay"]], InvalidWords, at=1)

    def test_unknown_words_come_behind_wrong_ones(self):
        book = sample()
        self.words(book, ["elm", "ash", 5], InvalidWords, at=2)
        self.words(book, ["elm", "fir", "elm"], InvalidWords, at=2)
        self.words(book, ["ash", "fir", "elm"], UnknownWord, word="fir")

    def holes(self, book, holes, at):
        for call in (lambda: shown(book, holes), lambda: falls(book, holes, "ash")):
            self.assertEqual(raised(call), (InvalidHoles, {"at": at}), holes)

    def test_holes_are_a_list(self):
        for holes in NO_LISTS:
            self.holes(sample(), holes, -1)

    def test_holes_are_ascending_integers(self):
        book = sample()
        for hole in NO_INTEGERS + (-1, 6, 10 ** 30):
            self.holes(book, [hole], 0)
            self.holes(book, (0, 2, hole, None), 2)
        self.holes(book, [0, 0], 1)
        self.holes(book, [1, 3, 2, 9], 2)
        self.holes(book, [0, 1, 2, 3, 4, 5, 6], 6)
        self.holes(book, [[0, 1]], 0)

    def test_holes_may_be_none_or_all(self):
        book = Book(24, {"a": (0, 23)})
        self.assertEqual([shown(book, []), shown(book, list(range(24)))],
                         [[], ["a"]])

    def test_holes_are_checked_before_the_word(self):
        book = sample()
        self.assertEqual(raised(falls, book, [0, 0], "elm"), (InvalidHoles, {"at": 1}))
        self.assertEqual(raised(falls, word=None, holes=None, book=book), (InvalidHoles, {"at": -1}))
        self.assertEqual(raised(falls, book, [0, 1], None), (UnknownWord, {"word": None}))

    def test_count(self):
        for k in (1, 2, 13, 14):
            self.assertIsNone(check_count(k))
        for k in NO_INTEGERS + (0, 15, -1, 10 ** 30):
            self.assertEqual(raised(check_count, k), (InvalidCount, {}))


if __name__ == "__main__":
    unittest.main()
