"""The worked examples, as they stand in the document."""

import unittest

EXAMPLES = r'''
>>> from needledrop.books import Book
>>> book = Book(6, {"dew": (3, 4, 5), "ash": [0, 1], "bay": (1, 2), "cob": (0, 2)})
>>> [book.words(), book.code("ash"), len(book), "ash" in book, "elm" in book]
[['ash', 'bay', 'cob', 'dew'], (0, 1), 4, True, False]

>>> from needledrop.books import Book
>>> Book(6, {"ash": (0, 1), "Bay": (1, 2)})
raises InvalidBook('word', 'Bay')

>>> from needledrop.books import Book, false_words, notches, shown
>>> book = Book(6, {"ash": (0, 1), "bay": (1, 2), "cob": (0, 2), "dew": (3, 4, 5)})
>>> [notches(book, ["bay", "ash"]), shown(book, [1, 2, 3, 4, 5]), false_words(book, ["bay", "ash"])]
[(0, 1, 2), ['bay', 'dew'], ['cob']]

>>> from needledrop.books import Book
>>> from needledrop.covers import cover_of, is_cover, least_covers, strength
>>> book = Book(6, {"ash": (0, 1), "bay": (1, 2), "cob": (0, 2), "dew": (3, 4, 5)})
>>> [cover_of(book, "cob"), cover_of(book, "dew"), least_covers(book, "ash"), strength(book), is_cover(book, "cob", ("dew", "bay", "ash"))]
[['ash', 'bay'], None, [('bay', 'cob')], 1, True]

>>> from needledrop.books import Book
>>> from needledrop.chances import card_share, false_share, mean_false
>>> book = Book(6, {"ash": (0, 1), "bay": (1, 2), "cob": (0, 2), "dew": (3, 4, 5)})
>>> [false_share(book, "cob", 2), mean_false(book, 2), card_share(book, 2), mean_false(book, 3), card_share(book, 3)]
[(1, 3), (1, 2), (1, 2), (3, 4), (1, 4)]

>>> from needledrop.books import Book
>>> from needledrop.chances import false_share
>>> book = Book(6, {"ash": (0, 1), "bay": (1, 2), "cob": (0, 2), "dew": (3, 4, 5)})
>>> false_share(book, "cob", 4)
raises LimitExceeded('words')

>>> from needledrop.books import Book
>>> from needledrop.needles import enough, least_needles, private
>>> book = Book(6, {"ash": (0, 1), "bay": (1, 2), "cob": (0, 2), "dew": (3, 4, 5)})
>>> [enough(book, "cob", (0,), 1), enough(book, "dew", [4], 3), enough(book, "cob", [], 2), private(book, "cob"), least_needles(book, "cob", 2), private(book, "dew")]
[['ash'], None, [], [(0, 2)], [], [(3,), (4,), (5,)]]

>>> from needledrop.books import Book
>>> from needledrop.reading import count_readings, each_reading, first_reading
>>> book = Book(4, {"a": (0, 1), "b": (1, 2), "c": (2, 3), "d": (0, 2)})
>>> [count_readings(book, (0, 1, 2), 2), list(each_reading(book, (0, 1, 2), 3)), first_reading(book, (0, 1, 3), 2), first_reading(book, (0, 1, 3), 2, torn=1)]
[3, [['a', 'b'], ['a', 'd'], ['b', 'd'], ['a', 'b', 'd']], None, ['a']]

>>> from needledrop.books import Book
>>> from needledrop.reading import barred_words, least_torn, maybe_words, sources, sure_words
>>> book = Book(4, {"a": (0, 1), "b": (1, 2), "c": (2, 3), "d": (0, 2)})
>>> [sure_words(book, (0, 1, 2), 2), maybe_words(book, (0, 1, 2), 2), barred_words(book, (0, 1, 2), 2), sure_words(book, [0, 1, 2, 3], 2), least_torn(book, [1, 3], 2), sources(book, [0, 1, 3])]
[[], ['a', 'b', 'd'], ['c'], ['a', 'c'], 2, {0: ['a'], 1: ['a'], 3: []}]

>>> from needledrop.books import Book
>>> from needledrop.reading import sure_words
>>> book = Book(4, {"a": (0, 1), "b": (1, 2), "c": (2, 3), "d": (0, 2)})
>>> sure_words(book, (0, 1, 3), 2)
raises NothingLeft('reading')

>>> from needledrop.books import Book
>>> from needledrop.reading import closest, twins
>>> book = Book(3, {"a": (0,), "b": (1, 2)})
>>> [twins(book, 2), closest(book, 1)[0], closest(book, 2)[0]]
[None, 1, 1]

>>> from needledrop.books import Book
>>> from needledrop.questions import alike_questions, answer, extra, fallen, lost, right, wrong_card
>>> book = Book(4, {"a": (0, 1), "b": (1, 2), "c": (2, 3), "d": (0, 2)})
>>> asked = ("word", "d")
>>> [right(book, asked, ["b", "a"]), fallen(book, asked, (0, 1, 2)), extra(book, asked, 2), lost(book, asked, 2), wrong_card(book, asked, 1), alike_questions(book, asked, ("and", asked, asked), 3), answer(book, asked, (0, 1, 2), 2)]
[False, True, ['a', 'b'], None, None, None, None]

>>> from needledrop.questions import question_words
>>> question_words(("and", ("word", "b"), ("not", ("word", "A"))))
raises InvalidQuestion((2, 1))

>>> from needledrop.books import Book
>>> from needledrop.change import free_codes, kept, least_holes, may_add, needless_holes
>>> book = Book(3, {"a": (0, 1), "b": (1, 2)})
>>> [may_add(book, (0, 2), 1), free_codes(book, 1, 1), free_codes(book, 2, 1), needless_holes(book, 1), least_holes(book, 1), kept(book, (0, 2)).codes()]
[None, [], [(0, 2)], [1], [(0, 2)], {'a': (0,), 'b': (2,)}]

>>> from needledrop.books import Book
>>> from needledrop.change import kept
>>> kept(Book(3, {"a": (0, 1), "b": (1, 2)}), [0])
raises NothingLeft('b')

>>> from needledrop.books import Book
>>> from needledrop.change import largest_words, stronger
>>> book = Book(3, {"a": (0, 1), "b": (1, 2), "c": (0, 2)})
>>> [largest_words(book, 1), largest_words(book, 2), stronger(book, Book(3, {"a": (0,), "b": (1,), "c": (2,)}), 1)]
[[['a', 'b', 'c']], [['a', 'b'], ['a', 'c'], ['b', 'c']], None]

>>> from needledrop.books import Book
>>> from needledrop.drawer import Drawer
>>> drawer = Drawer(Book(4, {"a": (0, 1), "b": (1, 2), "c": (2, 3), "d": (0, 2)}))
>>> first = drawer.put(["b", "a"])
>>> second = drawer.put(["d"])
>>> drawer[second] = ["c", "d"]
>>> [first, second, drawer[first], drawer.holes(second), drawer.needle([0, 2]), drawer(("word", "d")), drawer.false(("word", "d")), drawer.report()]
[1, 2, ['a', 'b'], (0, 2, 3), [1, 2], [1, 2], [1], [(1, ['a', 'b'], ['d']), (2, ['c', 'd'], [])]]

>>> from needledrop.books import Book
>>> from needledrop.drawer import Drawer
>>> drawer = Drawer.of(Book(4, {"a": (0, 1), "b": (1, 2), "d": (0, 2)}), [["a", "b"], []])
>>> shown = drawer.trial([("recode", "d", (0, 3)), ("strike", 2)])
>>> told = drawer.attempt([("strike", 1), ("attempt", [("put", ["d"])])])
>>> drawer.undo()
>>> [shown, told, drawer.numbers(), drawer.put([]), drawer.false(("word", "d"))]
[[(1, ['a', 'b'], [])], [None, [3]], [1, 2], 3, [1]]

>>> from needledrop.texts import read_book, write_book
>>> book = read_book("holes 4\ncode ash 0 1\ncode b 3\n")
>>> [book.n, book.codes(), write_book(book).split("\n")]
[4, {'ash': (0, 1), 'b': (3,)}, ['holes 4', 'code ash 0 1', 'code b 3', '']]

>>> from needledrop.texts import read_drawer
>>> read_drawer("holes 4\ncode a 0 1\ncard 2 a\ncard 2\n")
raises InvalidText(4)

>>> from needledrop.texts import read_question, write_question
>>> asked = read_question("a|(b & (!((c|a))))")
>>> [asked, write_question(asked)]
[('or', ('word', 'a'), ('and', ('word', 'b'), ('not', ('or', ('word', 'c'), ('word', 'a'))))), 'a | b & !(c | a)']

>>> from needledrop.texts import read_question
>>> read_question("a | (b|")
raises InvalidText(7)
'''


def told(lines):
    """What the last line answers, behind the lines before it."""
    names = {}
    for line in lines[:-1]:
        exec(line, names)
    try:
        return repr(eval(lines[-1], names))
    except Exception as error:
        return f"raises {error!r}"


class ExamplesTest(unittest.TestCase):
    def test_examples(self):
        examples = EXAMPLES.strip().split("\n\n")
        self.assertEqual(len(examples), 22)
        for example in examples:
            *lines, expected = example.split("\n")
            self.assertEqual(told([line.removeprefix(">>> ") for line in lines]), expected)


if __name__ == "__main__":
    unittest.main()
