"""Point [2] and the interface: names, arguments and the files that define them."""

import importlib
import inspect
import unittest

INTERFACE = {
    "books": {"notches": "(book, words)", "falls": "(book, holes, word)", "shown": "(book, holes)",
              "false_words": "(book, words)"},
    "covers": {"is_cover": "(book, word, thing)", "cover_of": "(book, word)", "least_covers": "(book, word)",
               "strength": "(book)", "weakest": "(book)"},
    "chances": {"false_share": "(book, word, k)", "mean_false": "(book, k)", "card_share": "(book, k)"},
    "needles": {"enough": "(book, word, needles, k)", "least_needles": "(book, word, k)", "private": "(book, word)"},
    "reading": {"count_readings": "(book, holes, k, *, torn=0)", "first_reading": "(book, holes, k, *, torn=0)",
                "each_reading": "(book, holes, k, *, torn=0)", "sure_words": "(book, holes, k, *, torn=0)",
                "maybe_words": "(book, holes, k, *, torn=0)", "barred_words": "(book, holes, k, *, torn=0)",
                "sources": "(book, holes)", "least_torn": "(book, holes, k)", "twins": "(book, k)",
                "closest": "(book, k)"},
}


class InterfaceTest(unittest.TestCase):
    def test_functions(self):
        for name, functions in INTERFACE.items():
            module = importlib.import_module("needledrop." + name)
            for function, arguments in functions.items():
                found = getattr(module, function)
                self.assertEqual(str(inspect.signature(found)), arguments, function)
                self.assertEqual([found.__module__, found.__name__], [module.__name__, function])

    def test_book(self):
        book = importlib.import_module("needledrop.books").Book
        self.assertEqual(book.__module__, "needledrop.books")
        for method, arguments in (("__init__", "(self, n, codes)"), ("words", "(self)"), ("code", "(self, word)"),
                                  ("codes", "(self)"), ("with_word", "(self, word, code)"),
                                  ("without", "(self, word)")):
            self.assertEqual(str(inspect.signature(vars(book)[method])), arguments, method)

    def test_generators(self):
        for name, functions in INTERFACE.items():
            module = importlib.import_module("needledrop." + name)
            for function in functions:
                self.assertEqual(inspect.isgeneratorfunction(getattr(module, function)), function == "each_reading")


if __name__ == "__main__":
    unittest.main()
