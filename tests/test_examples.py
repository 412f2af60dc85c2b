"""The worked examples, as they stand in the document."""

import unittest

EXAMPLES = '''
>>> from needledrop.books import Book
>>> book = Book(6, {"dew": (3, 4, 5), "ash": [0, 1], "bay": (1, 2), "cob": (0, 2)})
>>> [book.words(), book.code("ash"), len(book), "ash" in book, "elm" in book]
[['ash', 'bay', 'cob', 'dew'], (0, 1), 4, True, False]

>>> from needledrop.books import Book
>>> Book(6, {"ash": (0, 1), "Bay": (1, 2)})
raises InvalidBook('word', 'Bay')

>>> from needledrop.books import Book, false_words, notches, shown
>>> book = Book(6, {"ash": (0, 1), "bay": (1, 2), "cob": (0, 2), "dew": (3, 4, 5)})
>>> [notches(book, ["bay", "ash"]), shown(book, [1, 2, 3, 4, 5]), false_words(book, ["bay", "ash"])]
[(0, 1, 2), ['bay', 'dew'], ['cob']]

>>> from needledrop.books import Book
>>> from needledrop.covers import cover_of, is_cover, least_covers, strength
>>> book = Book(6, {"ash": (0, 1), "bay": (1, 2), "cob": (0, 2), "dew": (3, 4, 5)})
>>> [cover_of(book, "cob"), cover_of(book, "dew"), least_covers(book, "ash"), strength(book), is_cover(book, "cob", ("dew", "bay", "ash"))]
[['ash', 'bay'], None, [('bay', 'cob')], 1, True]
'''


def told(lines):
    """What the last line answers, behind the lines before it."""
    names = {}
    for line in lines[:-1]:
        exec(line, names)
    try:
        return repr(eval(lines[-1], names))
    except Exception as error:
        return f"raises {error!r}"


class ExamplesTest(unittest.TestCase):
    def test_examples(self):
        examples = EXAMPLES.strip().split("\n\n")
        self.assertEqual(len(examples), 4)
        for example in examples:
            *lines, expected = example.split("\n")
            self.assertEqual(told([line.removeprefix(">>> ") for line in lines]), expected)


if __name__ == "__main__":
    unittest.main()
