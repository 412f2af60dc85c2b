"""Point [2] and the interface: names, arguments and the files that define them."""

import importlib
import inspect
import unittest

INTERFACE = {
    "books": {"notches": "(book, words)", "falls": "(book, holes, word)", "shown": "(book, holes)",
              "false_words": "(book, words)"},
    "covers": {"is_cover": "(book, word, thing)", "cover_of": "(book, word)", "least_covers": "(book, word)",
               "strength": "(book)", "weakest": "(book)"},
    "chances": {"false_share": "(book, word, k)", "mean_false": "(book, k)", "card_share": "(book, k)"},
    "needles": {"enough": "(book, word, needles, k)", "least_needles": "(book, word, k)", "private": "(book, word)"},
    "reading": {"count_readings": "(book, holes, k, *, torn=0)", "first_reading": "(book, holes, k, *, torn=0)",
                "each_reading": "(book, holes, k, *, torn=0)", "sure_words": "(book, holes, k, *, torn=0)",
                "maybe_words": "(book, holes, k, *, torn=0)", "barred_words": "(book, holes, k, *, torn=0)",
                "sources": "(book, holes)", "least_torn": "(book, holes, k)", "twins": "(book, k)",
                "closest": "(book, k)"},
    "questions": {"question_words": "(question)", "right": "(book, question, words)",
                  "fallen": "(book, question, holes)", "extra": "(book, question, k)", "lost": "(book, question, k)",
                  "wrong_card": "(book, question, k)", "alike_questions": "(book, first, second, k)",
                  "blurred": "(book, question, k)", "answer": "(book, question, holes, k, *, torn=0)"},
    "change": {"may_add": "(book, code, k)", "free_codes": "(book, size, k)", "kept": "(book, holes)",
               "needless_holes": "(book, k)", "least_holes": "(book, k)", "largest_words": "(book, k)",
               "stronger": "(one, other, k)"},
    "texts": {"write_book": "(book)", "write_drawer": "(drawer)", "read_book": "(text)", "read_drawer": "(text)",
              "read_question": "(text)", "write_question": "(question)"},
}
BOOK = {"__init__": "(self, n, codes)", "words": "(self)", "code": "(self, word)", "codes": "(self)",
        "with_word": "(self, word, code)", "without": "(self, word)", "__eq__": "(self, other)",
        "__contains__": "(self, thing)", "__len__": "(self)", "__iter__": "(self)"}
DRAWER = {"__init__": "(self, book)", "put": "(self, words)", "__iadd__": "(self, words)",
          "__getitem__": "(self, number)", "__setitem__": "(self, number, words)", "strike": "(self, number)",
          "holes": "(self, number)", "__contains__": "(self, number)", "__len__": "(self)", "numbers": "(self)",
          "cards": "(self)", "recode": "(self, word, code)", "needle": "(self, holes)", "__call__": "(self, question)",
          "false": "(self, question)", "missing": "(self, question)", "report": "(self)", "undo": "(self)",
          "redo": "(self)", "twin": "(self)", "attempt": "(self, deeds)", "trial": "(self, deeds)"}


class InterfaceTest(unittest.TestCase):
    def test_functions(self):
        for name, functions in INTERFACE.items():
            module = importlib.import_module("needledrop." + name)
            for function, arguments in functions.items():
                found = getattr(module, function)
                self.assertEqual(str(inspect.signature(found)), arguments, function)
                self.assertEqual([found.__module__, found.__name__], [module.__name__, function])

    def methods(self, module, name, methods):
        found = getattr(importlib.import_module(module), name)
        self.assertEqual(found.__module__, module)
        for method, arguments in methods.items():
            # What is inherited is not among the names of the class itself.
            self.assertEqual(str(inspect.signature(vars(found)[method])), arguments, method)

    def test_book(self):
        self.methods("needledrop.books", "Book", BOOK)

    def test_drawer(self):
        self.methods("needledrop.drawer", "Drawer", DRAWER)
        found = vars(importlib.import_module("needledrop.drawer").Drawer)
        self.assertIsInstance(found["of"], classmethod)
        self.assertEqual(str(inspect.signature(found["of"].__func__)), "(cls, book, cards)")
        self.assertIsInstance(found["book"], property)
        self.assertIsNotNone(found["book"].fset)
        self.assertTrue(inspect.isgeneratorfunction(found["cards"]))

    def test_generators(self):
        for name, functions in INTERFACE.items():
            module = importlib.import_module("needledrop." + name)
            for function in functions:
                self.assertEqual(inspect.isgeneratorfunction(getattr(module, function)), function == "each_reading")


if __name__ == "__main__":
    unittest.main()
