"""Points [3] and [4]: the errors of the program."""

import unittest

from needledrop import errors
from needledrop.books import Book, false_words, notches, shown
from needledrop.covers import is_cover
from needledrop.errors import UnknownWord
from helper import raised, sample

ATTRIBUTES = {
    "InvalidBook": ("why", "at"), "InvalidHoles": ("at",), "InvalidWords": ("at",), "UnknownWord": ("word",),
    "InvalidCount": (), "InvalidQuestion": ("path",), "InvalidCard": ("number",), "InvalidText": ("at",),
    "LimitExceeded": ("limit",), "NothingLeft": ("what",),
}


class ErrorsTest(unittest.TestCase):
    def test_base_class(self):
        self.assertEqual(errors.CardError.__bases__, (Exception,))

    def test_each_error_stands_directly_below_it(self):
        for name in ATTRIBUTES:
            self.assertEqual(getattr(errors, name).__bases__, (errors.CardError,), name)
            self.assertEqual(getattr(errors, name).__module__, "needledrop.errors")

    def test_there_are_no_other_errors(self):
        self.assertEqual({each.__name__ for each in errors.CardError.__subclasses__()}, set(ATTRIBUTES))

    def test_attributes_by_position_and_by_name(self):
        for name, attributes in ATTRIBUTES.items():
            worths = [(key, 1) for key in attributes]
            expected = dict(zip(attributes, worths))
            self.assertEqual(vars(getattr(errors, name)(*worths)), expected, name)
            self.assertEqual(vars(getattr(errors, name)(**expected)), expected, name)

    def test_errors_show_their_arguments(self):
        self.assertEqual(repr(errors.InvalidBook("word", "Bay")), "InvalidBook('word', 'Bay')")

    def test_an_error_keeps_no_list_or_dict_that_was_given(self):
        book = sample()
        for call in (book.code, lambda word: book.with_word(word, (0,)), lambda word: is_cover(book, word, [])):
            wrong = [["x"], ({"y": [1]},)]
            with self.assertRaises(errors.CardError) as caught:
                call(wrong)
            wrong[0].append("more")
            wrong[1][0]["y"].append("more")
            wrong.append("more")
            kept = [vars(caught.exception)[key] for key in ("word", "at") if key in vars(caught.exception)]
            self.assertEqual(kept, [[["x"], ({"y": [1]},)]])

    def test_wrong_words_may_be_nested_deep(self):
        wrong = []
        for _ in range(19):
            wrong = [wrong]
        self.assertEqual(raised(sample().code, wrong), (UnknownWord, {"word": wrong}))


class UnchangedTest(unittest.TestCase):
    def test_nothing_that_is_handed_in_is_changed(self):
        codes = {"dew": [3, 4], "ash": [0, 1]}
        book = Book(6, codes)
        words, holes, code, thing = ["dew", "ash"], [0, 1, 3], [2, 5], ["dew"]
        notches(book, words)
        false_words(book, words)
        shown(book, holes)
        book.with_word("elm", code)
        is_cover(book, "ash", thing)
        self.assertEqual([list(codes.items()), words, holes, code, thing],
                         [[("dew", [3, 4]), ("ash", [0, 1])], ["dew", "ash"], [0, 1, 3], [2, 5], ["dew"]])


if __name__ == "__main__":
    unittest.main()
