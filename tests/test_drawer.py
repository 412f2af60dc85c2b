"""Points [80] to [83] and [87]: drawers."""

import random
import unittest

from needledrop.books import Book, notches
from needledrop.covers import strength
from needledrop.drawer import Drawer
from needledrop.errors import InvalidCard, InvalidHoles, InvalidQuestion, InvalidWords, LimitExceeded, NothingLeft
from needledrop.errors import UnknownWord
from needledrop.texts import read_drawer
from helper import NO_CODE_LISTS, NO_INTEGERS, NO_LISTS, NO_WORDS, ODD_THINGS, UNKNOWN_WORDS, example, held, nested
from helper import raised, random_question, sample, some_books, truth

D = ("word", "d")
# Each is not the number of a card, whatever the drawer is.
NO_NUMBERS = NO_INTEGERS + ODD_THINGS + (0, -1, 10 ** 30, "", (), [], {1: 1}, [1, 2], ([1],), {"a": [1]}, nested(1, 20))


def filled():
    """A drawer with three cards."""
    return Drawer.of(example(), [["b", "a"], [], ("d",)])


def set_card(drawer, number, words):
    """Set the words of a card by the sign."""
    drawer[number] = words


def add_card(drawer, words):
    """Put a card by the sign."""
    drawer += words
    return drawer


def set_book(drawer, book):
    """Set the book of the drawer."""
    drawer.book = book


class MakeTest(unittest.TestCase):
    """Point [80]."""

    def test_no_cards(self):
        for drawer in (Drawer(example()), Drawer(book=example()), Drawer.of(example(), [])):
            self.assertEqual(held(drawer), (example(), [], 0))
            self.assertEqual(raised(drawer.undo), (NothingLeft, {"what": "undo"}))
            self.assertEqual(raised(drawer.redo), (NothingLeft, {"what": "redo"}))
            self.assertEqual(drawer.put(["a"]), 1)

    def test_of(self):
        for cards in ([["b", "a"], [], ("d",)], (("b", "a"), (), ["d"])):
            drawer = Drawer.of(cards=cards, book=example())
            self.assertEqual(held(drawer), (example(), [(1, ["a", "b"]), (2, []), (3, ["d"])], 3))
            self.assertEqual(drawer.__class__, Drawer)
            self.assertEqual(raised(drawer.undo), (NothingLeft, {"what": "undo"}))
            self.assertEqual(drawer.put([]), 4)

    def test_two_drawers_share_nothing(self):
        book = example()
        one, other = Drawer(book), Drawer(book)
        one.put(["a"])
        self.assertEqual([len(one), len(other), raised(other.undo) is None], [1, 0, False])

    def test_of_no_list(self):
        for cards in NO_LISTS:
            self.assertEqual(raised(Drawer.of, example(), cards), (InvalidCard, {"number": -1}))

    def test_of_sixty_cards(self):
        drawer = Drawer.of(example(), [["a"]] * 60)
        self.assertEqual([len(drawer), drawer.numbers()], [60, list(range(1, 61))])
        for cards in ([[]] * 61, ((),) * 61, [None] * 61):
            self.assertEqual(raised(Drawer.of, example(), cards), (InvalidCard, {"number": -1}))

    def test_of_wrong_words(self):
        for words in NO_LISTS:
            self.assertEqual(raised(Drawer.of, example(), [["a"], words, None]), (InvalidWords, {"at": -1}))
        for word in NO_WORDS:
            self.assertEqual(raised(Drawer.of, example(), [["a"], ["b", word], [5]]), (InvalidWords, {"at": 1}))
        self.assertEqual(raised(Drawer.of, example(), [["a"], ["z", "y"], None]), (UnknownWord, {"word": "z"}))
        self.assertEqual(raised(Drawer.of, example(), [["a", "a"], ["z"], None]), (InvalidWords, {"at": 1}))
        self.assertEqual(raised(Drawer.of, example(), (["z"], ["a", "a"])), (UnknownWord, {"word": "z"}))

    def test_of_keeps_no_lists(self):
        words = ["b", "a"]
        cards = [words, []]
        drawer = Drawer.of(example(), cards)
        words.append("c")
        cards.append(["d"])
        self.assertEqual(held(drawer), (example(), [(1, ["a", "b"]), (2, [])], 2))


class CardsTest(unittest.TestCase):
    """Point [81]."""

    def test_put(self):
        drawer = Drawer(example())
        self.assertEqual([drawer.put(["b", "a"]), drawer.put(words=()), drawer.put(("d",))], [1, 2, 3])
        self.assertEqual(held(drawer), (example(), [(1, ["a", "b"]), (2, []), (3, ["d"])], 3))

    def test_add(self):
        drawer = same = filled()
        drawer += ["c", "a"]
        self.assertIs(drawer, same)
        self.assertEqual(held(drawer), (example(), [(1, ["a", "b"]), (2, []), (3, ["d"]), (4, ["a", "c"])], 4))
        drawer += ()
        self.assertEqual(drawer[5], [])

    def test_put_keeps_no_list(self):
        words = ["b", "a"]
        drawer = Drawer(example())
        drawer.put(words)
        drawer += words
        drawer[1] = words
        self.assertEqual(words, ["b", "a"])
        words.append("c")
        self.assertEqual(held(drawer), (example(), [(1, ["a", "b"]), (2, ["a", "b"])], 2))

    def test_wrong_words(self):
        drawer = filled()
        for call in (drawer.put, lambda words: add_card(drawer, words), lambda words: set_card(drawer, 1, words)):
            for words in NO_LISTS + (["a"] * 15,):
                self.assertEqual(raised(call, words), (InvalidWords, {"at": -1}))
            for word in NO_WORDS:
                self.assertEqual(raised(call, ["b", "z", word]), (InvalidWords, {"at": 2}))
            self.assertEqual(raised(call, ["b", "b"]), (InvalidWords, {"at": 1}))
            self.assertEqual(raised(call, ("b", "zz", "y")), (UnknownWord, {"word": "zz"}))
        self.assertEqual(held(drawer), held(filled()))
        self.assertEqual(raised(drawer.undo), (NothingLeft, {"what": "undo"}))

    def test_sixty_cards(self):
        drawer = Drawer.of(example(), [[]] * 59)
        self.assertEqual(drawer.put(["a"]), 60)
        full = (LimitExceeded, {"limit": "cards"})
        self.assertEqual([raised(drawer.put, ["a"]), raised(add_card, drawer, [])], [full, full])
        self.assertEqual([raised(drawer.put, ["z"]), raised(add_card, drawer, 5)],
                         [(UnknownWord, {"word": "z"}), (InvalidWords, {"at": -1})])
        self.assertEqual(len(drawer), 60)
        drawer[60] = ["b"]
        drawer.strike(7)
        self.assertEqual([drawer.put([]), raised(drawer.put, []), 7 in drawer], [61, full, False])

    def test_the_greatest_number(self):
        drawer = read_drawer("holes 4\ncode a 0 1\ncard 999999999 a\n")
        self.assertEqual(drawer.put([]), 10 ** 9)
        last = (LimitExceeded, {"limit": "number"})
        self.assertEqual([raised(drawer.put, ["a"]), raised(add_card, drawer, [])], [last, last])
        self.assertEqual(raised(drawer.put, ["z"]), (UnknownWord, {"word": "z"}))
        drawer.strike(10 ** 9)
        self.assertEqual(raised(drawer.put, ["a"]), last)
        drawer.undo()
        drawer.undo()
        self.assertEqual([drawer.put(["a"]), drawer[10 ** 9]], [10 ** 9, ["a"]])

    def test_cards_come_before_the_number(self):
        text = "holes 1\n" + "".join([f"card {number}\n" for number in range(10 ** 9 - 59, 10 ** 9 + 1)])
        drawer = read_drawer(text)
        self.assertEqual(raised(drawer.put, []), (LimitExceeded, {"limit": "cards"}))
        drawer.strike(10 ** 9)
        self.assertEqual(raised(drawer.put, []), (LimitExceeded, {"limit": "number"}))

    def test_words_of_a_card(self):
        drawer = filled()
        self.assertEqual([drawer[1], drawer[2], drawer[3]], [["a", "b"], [], ["d"]])
        drawer[1].append("c")
        self.assertEqual(drawer[1], ["a", "b"])

    def test_set(self):
        drawer = filled()
        drawer[2] = ("c", "a")
        drawer[1] = []
        self.assertEqual(held(drawer), (example(), [(1, []), (2, ["a", "c"]), (3, ["d"])], 3))

    def test_strike(self):
        drawer = filled()
        self.assertIsNone(drawer.strike(2))
        self.assertIsNone(drawer.strike(number=3))
        self.assertEqual(held(drawer), (example(), [(1, ["a", "b"])], 3))
        self.assertEqual([drawer.put(["a"]), drawer.numbers()], [4, [1, 4]])

    def test_holes(self):
        drawer = filled()
        self.assertEqual([drawer.holes(1), drawer.holes(2), drawer.holes(number=3)], [(0, 1, 2), (), (0, 2)])
        drawer.recode("d", [1, 3])
        self.assertEqual(drawer.holes(3), (1, 3))

    def test_no_numbers(self):
        drawer = filled()
        drawer.strike(2)
        for number in NO_NUMBERS + (2, 4, 5, "1", 1.0, slice(1, 2), slice(None), (1, 3), filled(), [1]):
            expected = (InvalidCard, {"number": number})
            for words in (["a"], None):
                self.assertEqual(raised(set_card, drawer, number, words), expected)
            for call in (lambda at: drawer[at], drawer.strike, drawer.holes):
                self.assertEqual(raised(call, number), expected)
            self.assertIs(number in drawer, False)
        self.assertEqual(held(drawer), (example(), [(1, ["a", "b"]), (3, ["d"])], 3))

    def test_errors_keep_no_lists(self):
        number = [[1], {"a": [2]}]
        try:
            filled().strike(number)
        except InvalidCard as error:
            number[0].append(2)
            number[1]["a"].append(3)
            self.assertEqual(error.number, [[1], {"a": [2]}])

    def test_in_len_numbers(self):
        drawer = filled()
        self.assertEqual([number in drawer for number in (0, 1, 2, 3, 4)], [False, True, True, True, False])
        self.assertIs(1 in drawer, True)
        self.assertEqual([len(drawer), drawer.numbers()], [3, [1, 2, 3]])
        drawer.numbers().clear()
        self.assertEqual(drawer.numbers(), [1, 2, 3])

    def test_cards(self):
        drawer = filled()
        found = list(drawer.cards())
        self.assertEqual(found, [(1, ["a", "b"]), (2, []), (3, ["d"])])
        self.assertEqual([item.__class__ for item in found], [tuple] * 3)
        for _, words in drawer.cards():
            words.append("c")
        self.assertEqual(list(drawer.cards()), [(1, ["a", "b"]), (2, []), (3, ["d"])])
        self.assertEqual(next(drawer.cards()), (1, ["a", "b"]))
        self.assertEqual(list(Drawer(example()).cards()), [])

    def test_numbers_ascend_behind_all_deeds(self):
        drawer = filled()
        drawer.strike(1)
        drawer.put(["c"])
        drawer[3] = ["a"]
        drawer.undo()
        drawer[2] = ["b"]
        drawer.book = Book(4, {**example().codes(), "e": (0,)})
        self.assertEqual(drawer.numbers(), [2, 3, 4])
        self.assertEqual([number for number, _ in drawer.cards()], [2, 3, 4])
        self.assertEqual([row[0] for row in drawer.report()], [2, 3, 4])
        self.assertEqual(drawer.needle([]), [2, 3, 4])


class BookTest(unittest.TestCase):
    """Point [82]."""

    def test_book(self):
        drawer = filled()
        self.assertEqual(drawer.book, example())
        other = Book(9, {"a": (8,), "b": (0, 7), "d": (5,)})
        drawer.book = other
        self.assertEqual(held(drawer), (other, [(1, ["a", "b"]), (2, []), (3, ["d"])], 3))
        self.assertEqual([drawer.holes(1), drawer.holes(3)], [(0, 7, 8), (5,)])
        self.assertEqual(drawer.needle([8]), [1])

    def test_words_that_the_new_book_lacks(self):
        drawer = Drawer.of(Book(5, {word: (at,) for at, word in enumerate(("z", "b", "aa", "a", "ab"))}),
                           [["z"], ["b", "aa"], ["a"]])
        for words, missing in ((("z", "b"), "a"), (("a", "b"), "aa"), (("a", "aa", "b"), "z"), ((), "a"),
                               (("ab", "a", "aa"), "b")):
            before = held(drawer)
            self.assertEqual(raised(set_book, drawer, Book(2, {word: (0,) for word in words})),
                             (UnknownWord, {"word": missing}))
            self.assertEqual(held(drawer), before)
        for words in (("z", "b", "aa", "a"), ("z", "b", "aa", "a", "q")):
            set_book(drawer, Book(2, {word: (0,) for word in words}))
            self.assertEqual(drawer.holes(2), (0,))

    def test_words_of_cards_that_are_struck_are_not_missed(self):
        drawer = filled()
        drawer.strike(3)
        drawer.book = Book(2, {"a": (0,), "b": (1,)})
        self.assertEqual(drawer.holes(1), (0, 1))
        drawer[1] = []
        drawer.book = Book(1, {})
        self.assertEqual(held(drawer), (Book(1, {}), [(1, []), (2, [])], 3))

    def test_recode(self):
        drawer = filled()
        self.assertIsNone(drawer.recode("a", [3]))
        self.assertEqual(drawer.book, Book(4, {"a": (3,), "b": (1, 2), "c": (2, 3), "d": (0, 2)}))
        self.assertEqual([drawer.holes(1), drawer.numbers()], [(1, 2, 3), [1, 2, 3]])
        self.assertIsNone(drawer.recode(code=(0, 1), word="a"))
        self.assertEqual(held(drawer), held(filled()))

    def test_recode_keeps_no_list(self):
        code = [0, 3]
        drawer = filled()
        drawer.recode("a", code)
        code.append(4)
        self.assertEqual([drawer.book.code("a"), code], [(0, 3), [0, 3, 4]])

    def test_recode_in_a_book_of_fourteen_words(self):
        book = Book(14, {letter: (at,) for at, letter in enumerate("abcdefghijklmn")})
        drawer = Drawer.of(book, [book.words()])
        drawer.recode("n", tuple(range(8)))
        self.assertEqual(drawer.holes(1), tuple(range(13)))

    def test_wrong_words_and_codes(self):
        drawer = Drawer.of(sample(), [["ash"]])
        for word in UNKNOWN_WORDS:
            for code in ((0,), None):
                self.assertEqual(raised(drawer.recode, word, code), (UnknownWord, {"word": word}))
        for code in NO_CODE_LISTS + ([9] * 9,):
            self.assertEqual(raised(drawer.recode, "ash", code), (InvalidHoles, {"at": -1}))
        for hole in NO_INTEGERS + (-1, 6, 10 ** 30):
            self.assertEqual(raised(drawer.recode, "ash", [hole]), (InvalidHoles, {"at": 0}))
            self.assertEqual(raised(drawer.recode, "ash", (1, 4, hole, 5)), (InvalidHoles, {"at": 2}))
        self.assertEqual(raised(drawer.recode, "ash", (1, 4, 4)), (InvalidHoles, {"at": 2}))
        self.assertEqual(held(drawer), (sample(), [(1, ["ash"])], 1))
        self.assertEqual(raised(drawer.undo), (NothingLeft, {"what": "undo"}))


class QuestionsTest(unittest.TestCase):
    """Points [83] and [87]."""

    def test_example(self):
        drawer = Drawer.of(example(), [["b", "a"], ["c", "d"]])
        self.assertEqual([drawer.needle([0, 2]), drawer(D), drawer.false(D), drawer.missing(D)], [[1, 2], [1, 2], [1],
                                                                                                  []])
        self.assertEqual(drawer.report(), [(1, ["a", "b"], ["d"]), (2, ["c", "d"], [])])
        self.assertEqual([drawer(("not", D)), drawer.missing(("not", D))], [[], [1]])

    def test_by_name(self):
        drawer = filled()
        self.assertEqual([drawer.needle(holes=(0,)), drawer(question=D), drawer.false(question=D),
                          drawer.missing(question=("not", D))], [[1, 3], [1, 3], [1], [1]])

    def test_needle(self):
        drawer = filled()
        self.assertEqual([drawer.needle(()), drawer.needle([1]), drawer.needle((0, 1, 2)), drawer.needle([0, 3])],
                         [[1, 2, 3], [1], [1], []])
        for holes in NO_LISTS:
            for empty in (drawer, Drawer(example())):
                self.assertEqual(raised(empty.needle, holes), (InvalidHoles, {"at": -1}))
        for hole in NO_INTEGERS + (-1, 4, 10 ** 30):
            self.assertEqual(raised(drawer.needle, [1, hole]), (InvalidHoles, {"at": 1}))
        self.assertEqual(raised(Drawer(example()).needle, [1, 1]), (InvalidHoles, {"at": 1}))

    def test_wrong_questions(self):
        for drawer in (filled(), Drawer(example())):
            for call in (drawer, drawer.false, drawer.missing):
                for thing in ODD_THINGS + (drawer, [], (), "a", ["word", "a"], ("word",), 0):
                    self.assertEqual(raised(call, thing), (InvalidQuestion, {"path": ()}))
                    self.assertEqual(raised(call, ("or", ("word", "z"), ("not", thing))),
                                     (InvalidQuestion, {"path": (2, 1)}))
                self.assertEqual(raised(call, ("or", ("word", "z"), ("word", "y"))), (UnknownWord, {"word": "z"}))

    def test_all_answers(self):
        dice = random.Random(61)
        for book in some_books()[::2]:
            cards = [dice.sample(book.words(), dice.randint(0, len(book))) for _ in range(dice.randint(0, 9))]
            drawer = Drawer.of(book, cards)
            rows = []
            for at, words in enumerate(cards):
                holes = {hole for word in words for hole in book.code(word)}
                rows.append((at + 1, sorted(words), holes, [word for word in book if set(book.code(word)) <= holes]))
            self.assertEqual(drawer.report(), [(number, words, [word for word in fallen if word not in words])
                                               for number, words, _, fallen in rows])
            holes = sorted(dice.sample(range(book.n), dice.randint(0, book.n)))
            self.assertEqual(drawer.needle(holes), [row[0] for row in rows if set(holes) <= row[2]])
            for _ in range(4 if len(book) else 0):
                question = random_question(dice, book.words(), dice.randint(1, 20))
                asked = [(row[0], truth(question, row[3]), truth(question, row[1])) for row in rows]
                self.assertEqual(drawer(question), [row[0] for row in asked if row[1]])
                self.assertEqual(drawer.false(question), [row[0] for row in asked if row[1] and not row[2]])
                self.assertEqual(drawer.missing(question), [row[0] for row in asked if row[2] and not row[1]])
                if "not" not in str(question):
                    self.assertEqual(drawer.missing(question), [])
                if strength(book) is None or strength(book) >= max([len(words) for words in cards], default=0):
                    self.assertEqual([drawer.false(question), drawer.missing(question)], [[], []])
                    self.assertFalse(any(row[2] for row in drawer.report()))
            for word in book:
                self.assertEqual(drawer.false(("word", word)), [row[0] for row in drawer.report() if word in row[2]])
                self.assertEqual(drawer(("word", word)), drawer.needle(book.code(word)))

    def test_what_was_returned_may_be_changed(self):
        drawer = filled()
        for call in (lambda: drawer.needle([0]), lambda: drawer(D), lambda: drawer.false(D),
                     lambda: drawer.missing(("not", D)), lambda: drawer.report(), lambda: drawer.report()[0][1],
                     lambda: drawer.report()[0][2]):
            expected = list(call())
            call().append("x")
            self.assertEqual(call(), expected)
        self.assertEqual(held(drawer), held(filled()))

    def test_questions_are_no_deeds(self):
        drawer = filled()
        drawer.put(["a"])
        drawer.undo()
        holes = [0]
        for answer in (drawer(D), drawer.false(D), drawer.missing(D), drawer.needle(holes), drawer.report(), drawer[1],
                       drawer.holes(1), drawer.numbers(), list(drawer.cards()), drawer.book, len(drawer), drawer.twin()):
            self.assertIsNotNone(answer)
        self.assertIs(1 in drawer, True)
        self.assertEqual(holes, [0])
        drawer.redo()
        self.assertEqual(drawer[4], ["a"])
        drawer.undo()
        self.assertEqual(raised(drawer.undo), (NothingLeft, {"what": "undo"}))

    def test_large_drawers(self):
        dice = random.Random(62)
        book = Book(24, {letter: sorted(dice.sample(range(24), 8)) for letter in "abcdefghijklmn"})
        drawer = Drawer.of(book, [dice.sample(book.words(), dice.randint(0, 14)) for _ in range(60)])
        question = random_question(dice, book.words(), 24)
        told = [number for number, words in drawer.cards()
                if truth(question, [word for word in book if set(book.code(word)) <= set(notches(book, words))])]
        self.assertEqual(drawer(question), told)


if __name__ == "__main__":
    unittest.main()
