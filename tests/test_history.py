"""Points [84] to [86]: the history of a drawer, attempts and trials."""

import random
import unittest
from copy import deepcopy

from needledrop.books import Book, false_words, notches
from needledrop.drawer import Drawer
from needledrop.errors import CardError, InvalidCard, InvalidHoles, InvalidWords, LimitExceeded, NothingLeft
from needledrop.errors import UnknownWord
from needledrop.texts import read_drawer
from helper import NO_CODE_LISTS, NO_LISTS, NO_WORDS, ODD_THINGS, UNKNOWN_WORDS, example, held, raised, sample

NO_UNDO = (NothingLeft, {"what": "undo"})
NO_REDO = (NothingLeft, {"what": "redo"})


def filled():
    """A drawer with three cards."""
    return Drawer.of(example(), [["b", "a"], [], ("d",)])


def do(drawer, deed):
    """Do a deed by the call or the sign that it stands for."""
    kind, *rest = deed
    if kind == "put":
        return drawer.put(*rest)
    if kind == "add":
        same = drawer
        drawer += rest[0]
        assert drawer is same
    elif kind == "set":
        drawer[rest[0]] = rest[1]
    elif kind == "strike":
        return drawer.strike(*rest)
    elif kind == "recode":
        return drawer.recode(*rest)
    elif kind == "book":
        drawer.book = rest[0]
    else:
        return {"attempt": drawer.attempt, "trial": drawer.trial, "undo": drawer.undo, "redo": drawer.redo}[kind](*rest)


DEEDS = (("put", ["c"]), ("add", ["c", "a"]), ("set", 2, ["d"]), ("set", 1, ["b", "a"]), ("strike", 3),
         ("recode", "d", (1, 3)), ("recode", "d", (0, 2)), ("book", example()), ("book", Book(4, {**example().codes(),
                                                                                                "e": (0, 3)})),
         ("attempt", []), ("attempt", [("put", []), ("strike", 1)]))
WRONG_DEEDS = (("put", ["z"]), ("add", None), ("set", 9, []), ("set", 1, ["z"]), ("strike", 5), ("recode", "z", (0,)),
               ("recode", "a", (4,)), ("book", Book(4, {"a": (0,)})), ("attempt", [("put", []), ("strike", 9)]),
               ("attempt", [("attempt", [("recode", "a", ())])]), ("trial", [("put", []), ("strike", 9)]))
NO_DEEDS = (("trial", [("put", []), ("strike", 1), ("recode", "a", (3,))]), ("trial", []))


class UndoTest(unittest.TestCase):
    """Point [84]."""

    def test_each_deed(self):
        for deed in DEEDS:
            drawer = filled()
            do(drawer, deed)
            behind = held(drawer)
            self.assertIsNone(drawer.undo())
            self.assertEqual(held(drawer), held(filled()), deed)
            self.assertEqual(raised(drawer.undo), NO_UNDO, deed)
            self.assertIsNone(drawer.redo())
            self.assertEqual(held(drawer), behind, deed)
            self.assertEqual(raised(drawer.redo), NO_REDO, deed)

    def test_each_deed_takes_away_undone_deeds(self):
        for deed in DEEDS:
            drawer = filled()
            drawer.put(["a"])
            drawer.put(["b"])
            drawer.undo()
            drawer.undo()
            do(drawer, deed)
            self.assertEqual(raised(drawer.redo), NO_REDO, deed)
            drawer.undo()
            self.assertEqual(held(drawer), held(filled()))
            drawer.redo()
            self.assertEqual(raised(drawer.redo), NO_REDO, deed)

    def test_what_is_no_deed(self):
        for deed in WRONG_DEEDS + NO_DEEDS:
            drawer = filled()
            drawer.put(["a"])
            drawer.put(["b"])
            drawer.undo()
            before = held(drawer)
            error = raised(do, drawer, deed)
            self.assertEqual(error is None, deed in NO_DEEDS, deed)
            self.assertEqual(held(drawer), before, deed)
            drawer.redo()
            self.assertEqual([drawer[4], drawer[5]], [["a"], ["b"]], deed)
            drawer.undo()
            drawer.undo()
            self.assertEqual(raised(drawer.undo), NO_UNDO, deed)
            self.assertEqual(held(drawer), held(filled()), deed)

    def test_undo_and_redo_that_raise_change_nothing(self):
        drawer = filled()
        drawer.put(["a"])
        self.assertEqual(raised(drawer.redo), NO_REDO)
        drawer.undo()
        self.assertEqual([raised(drawer.undo), raised(drawer.undo)], [NO_UNDO] * 2)
        drawer.redo()
        self.assertEqual(drawer[4], ["a"])

    def test_numbers_are_given_again_behind_undo(self):
        drawer = filled()
        self.assertEqual(drawer.put(["a"]), 4)
        drawer.strike(4)
        drawer.undo()
        drawer.undo()
        self.assertEqual([drawer.put(["b"]), drawer.put([])], [4, 5])
        drawer.strike(5)
        self.assertEqual(drawer.put([]), 6)

    def test_many_deeds(self):
        drawer = Drawer(example())
        states = [held(drawer)]
        for at in range(200):
            if at % 3 == 2 or len(drawer) > 50:
                drawer.strike(drawer.numbers()[0])
            else:
                drawer.put(["abcd"[at % 4]] if at % 5 else [])
            states.append(held(drawer))
            if at % 7 == 0:
                drawer.undo()
                drawer.redo()
        for state in states[-2::-1]:
            drawer.undo()
            self.assertEqual(held(drawer), state)
        self.assertEqual(raised(drawer.undo), NO_UNDO)
        for state in states[1:]:
            drawer.redo()
            self.assertEqual(held(drawer), state)
        self.assertEqual(raised(drawer.redo), NO_REDO)

    def test_changes_of_lists_that_were_returned_do_not_reach_the_history(self):
        drawer = filled()
        drawer.put(["a"])
        drawer[4].append("b")
        drawer.strike(4)
        drawer.undo()
        self.assertEqual(drawer[4], ["a"])


class TwinTest(unittest.TestCase):
    """The twin of point [84]."""

    def test_twin(self):
        drawer = filled()
        drawer.strike(2)
        drawer.put(["c"])
        drawer.strike(4)
        other = drawer.twin()
        self.assertEqual([other.__class__, other is drawer, held(other)], [Drawer, False, held(drawer)])
        self.assertEqual([raised(other.undo), raised(other.redo)], [NO_UNDO, NO_REDO])
        self.assertEqual(other.put([]), 5)

    def test_deeds_of_one_do_not_change_the_other(self):
        for deed in DEEDS:
            drawer = filled()
            drawer.put(["a"])
            other = drawer.twin()
            before = held(drawer)
            do(other, deed)
            self.assertEqual(held(drawer), before)
            behind = held(other)
            do(drawer, ("set", 1, ["c"]))
            drawer.undo()
            drawer.undo()
            self.assertEqual([held(other), held(drawer)], [behind, held(filled())])
            other.undo()
            self.assertEqual([held(other), raised(other.undo)], [before, NO_UNDO])


class AttemptTest(unittest.TestCase):
    """Point [85]."""

    def test_example(self):
        drawer = Drawer.of(Book(4, {"a": (0, 1), "b": (1, 2), "d": (0, 2)}), [["a", "b"], []])
        self.assertEqual(drawer.trial([("recode", "d", (0, 3)), ("strike", 2)]), [(1, ["a", "b"], [])])
        self.assertEqual(drawer.attempt([("strike", 1), ("attempt", [("put", ["d"])])]), [None, [3]])
        self.assertEqual(drawer.numbers(), [2, 3])
        drawer.undo()
        self.assertEqual([drawer.numbers(), drawer.put([]), drawer.false(("word", "d"))], [[1, 2], 3, [1]])

    def test_what_is_told(self):
        other = Book(3, {"a": (0,), "b": (1,), "c": (2,), "d": (0, 2)})
        drawer = filled()
        deeds = [("put", ["a"]), ("set", 1, ["c"]), ("strike", 2), ("recode", "c", (3,)), ("book", other),
                 ("attempt", []), ("attempt", [("put", []), ("strike", 5), ("put", ("b", "a"))]), ("put", [])]
        before = deepcopy(deeds)
        for order in (list, tuple):
            same = filled()
            self.assertEqual(same.attempt(deeds=order(deeds)), [4, None, None, None, None, [], [5, None, 6], 7])
            self.assertEqual(held(same), (other, [(1, ["c"]), (3, ["d"]), (4, ["a"]), (6, ["a", "b"]), (7, [])], 7))
            same.undo()
            self.assertEqual([held(same), raised(same.undo)], [held(drawer), NO_UNDO])
            same.redo()
            self.assertEqual([same.numbers(), raised(same.redo)], [[1, 3, 4, 6, 7], NO_REDO])
        self.assertEqual([deed[:-1] for deed in deeds], [deed[:-1] for deed in before])
        self.assertEqual([deeds[0], deeds[6]], [before[0], before[6]])

    def test_an_empty_attempt_is_a_deed(self):
        drawer = filled()
        drawer.put(["a"])
        drawer.undo()
        self.assertEqual(drawer.attempt(()), [])
        self.assertEqual(raised(drawer.redo), NO_REDO)
        drawer.undo()
        self.assertEqual([raised(drawer.undo), held(drawer)], [NO_UNDO, held(filled())])

    def test_four_deep(self):
        drawer = filled()
        deeds = [("put", ["a"]), ("attempt", [("put", []), ("attempt", (("strike", 1), ("attempt", [
            ("put", ["b"]), ("strike", 4)]), ("put", []))), ("put", ["d"])]), ("strike", 5)]
        self.assertEqual(drawer.attempt(deeds), [4, [5, [None, [6, None], 7], 8], None])
        self.assertEqual(drawer.numbers(), [2, 3, 6, 7, 8])
        drawer.undo()
        self.assertEqual([held(drawer), raised(drawer.undo)], [held(filled()), NO_UNDO])

    def test_forty_deeds(self):
        drawer = filled()
        self.assertEqual(drawer.attempt([("put", ["a"])] * 40), list(range(4, 44)))
        self.assertEqual(drawer.attempt([("attempt", [("strike", 43), ("put", [])])] + [("put", [])] * 17),
                         [[None, 44], *range(45, 62)])
        drawer.undo()
        self.assertEqual(len(drawer), 43)
        drawer.undo()
        self.assertEqual(held(drawer), held(filled()))

    def failing(self, drawer, deeds, error, **attributes):
        before = held(drawer)
        for call in (drawer.attempt, drawer.trial):
            self.assertEqual(raised(call, deeds), (error, attributes), deeds)
            self.assertEqual(held(drawer), before)

    def test_all_or_none(self):
        drawer = filled()
        drawer.put(["a"])
        drawer.put(["b"])
        drawer.undo()
        fine = [("put", ["c"]), ("set", 1, []), ("strike", 2), ("recode", "a", (3,)), ("attempt", [("put", [])])]
        for deeds in (lambda wrong: [wrong], lambda wrong: fine + [wrong], lambda wrong: [wrong] + fine,
                      lambda wrong: [("attempt", fine + [("attempt", (wrong,))])] + fine,
                      lambda wrong: fine + [("attempt", [("attempt", [("attempt", fine[:2] + [wrong])])])]):
            self.failing(drawer, deeds(("put", ["a", "z"])), UnknownWord, word="z")
            self.failing(drawer, deeds(("set", 77, ["z"])), InvalidCard, number=77)
            self.failing(drawer, deeds(("strike", True)), InvalidCard, number=True)
            self.failing(drawer, deeds(("recode", "b", (1, 1))), InvalidHoles, at=1)
            self.failing(drawer, deeds(("book", Book(2, {"b": (0,), "a": (1,), "c": (0,)}))), UnknownWord, word="d")
        drawer.redo()
        self.assertEqual([drawer[5], raised(drawer.redo)], [["b"], NO_REDO])
        drawer.undo()
        drawer.undo()
        self.assertEqual([held(drawer), raised(drawer.undo)], [held(filled()), NO_UNDO])

    def test_the_first_wrong_deed(self):
        drawer = filled()
        self.failing(drawer, [("strike", 1), ("strike", 1), ("put", None)], InvalidCard, number=1)
        self.failing(drawer, [("attempt", [("put", None)]), ("strike", 9)], InvalidWords, at=-1)
        self.failing(drawer, [("put", ["a"]), ("set", 5, []), ("strike", 9)], InvalidCard, number=5)
        self.failing(drawer, [("book", Book(2, {"a": (0,), "b": (0,), "d": (1,)})), ("put", ["c"])], UnknownWord,
                     word="c")
        self.failing(drawer, [("book", Book(2, {"a": (0,), "b": (0,), "d": (1,)})), ("recode", "a", (2,))],
                     InvalidHoles, at=0)

    def test_limits(self):
        drawer = Drawer.of(example(), [[]] * 58)
        self.failing(drawer, [("put", []), ("put", []), ("put", [])], LimitExceeded, limit="cards")
        self.failing(drawer, [("put", []), ("attempt", [("put", []), ("put", [])])], LimitExceeded, limit="cards")
        self.assertEqual(drawer.attempt([("put", []), ("put", []), ("strike", 1), ("put", [])]), [59, 60, None, 61])
        drawer = read_drawer("holes 1\ncard 999999999\n")
        self.failing(drawer, [("put", []), ("strike", 10 ** 9), ("put", [])], LimitExceeded, limit="number")
        self.failing(drawer, [("put", []), ("put", ["a"])], UnknownWord, word="a")
        self.assertEqual(drawer.attempt([("put", [])]), [10 ** 9])

    def test_wrong_arguments(self):
        drawer = Drawer.of(sample(), [["ash"]])
        for words in NO_LISTS:
            self.failing(drawer, [("put", words)], InvalidWords, at=-1)
            self.failing(drawer, (("set", 1, words),), InvalidWords, at=-1)
        for word in NO_WORDS:
            self.failing(drawer, [("put", ["ash", word])], InvalidWords, at=1)
            self.failing(drawer, [("set", 1, (word,))], InvalidWords, at=0)
        for number in ODD_THINGS + (0, 2, "1", [1], (1,), {}, drawer):
            self.failing(drawer, [("strike", number)], InvalidCard, number=number)
            self.failing(drawer, [("set", number, None)], InvalidCard, number=number)
        for word in UNKNOWN_WORDS:
            self.failing(drawer, [("recode", word, None)], UnknownWord, word=word)
        for code in NO_CODE_LISTS:
            self.failing(drawer, [("recode", "ash", code)], InvalidHoles, at=-1)

    def test_no_lists_are_kept(self):
        words, code = ["b", "a"], [0, 3]
        inner = [("put", words)]
        deeds = [("put", words), ("set", 1, words), ("recode", "a", code), ("attempt", inner)]
        drawer = filled()
        told = drawer.attempt(deeds)
        before = held(drawer)
        self.assertEqual([words, code, inner, len(deeds)], [["b", "a"], [0, 3], [("put", ["b", "a"])], 4])
        words.append("c")
        code.clear()
        inner.clear()
        deeds.clear()
        told[3].append(7)
        told.clear()
        self.assertEqual(held(drawer), before)
        drawer.undo()
        drawer.redo()
        self.assertEqual(held(drawer), before)


class TrialTest(unittest.TestCase):
    """Point [86]."""

    def test_trial(self):
        for deeds in ((), [], [("put", ["a", "b"]), ("strike", 1)], (("recode", "d", (3,)), ("set", 2, ["a", "b"])),
                      [("attempt", [("put", ["c", "a"])]), ("book", example())], [("strike", 1), ("strike", 2),
                                                                                  ("strike", 3)]):
            drawer = filled()
            drawer.put(["c"])
            drawer.undo()
            before = held(drawer)
            other = drawer.twin()
            other.attempt(deeds)
            self.assertEqual(drawer.trial(deeds=deeds), other.report())
            self.assertEqual([held(drawer), raised(drawer.undo)], [before, NO_UNDO])
            drawer.redo()
            self.assertEqual([drawer[4], raised(drawer.redo)], [["c"], NO_REDO])

    def test_numbers_are_not_used_up(self):
        drawer = filled()
        self.assertEqual(drawer.trial([("put", [])])[-1], (4, [], []))
        self.assertEqual(drawer.put([]), 4)

    def test_what_was_returned_may_be_changed(self):
        drawer = filled()
        rows = drawer.trial([])
        rows[0][1].append("c")
        rows[0][2].clear()
        rows.clear()
        self.assertEqual(drawer.trial([]), filled().report())


class Model:
    """A drawer that is written as plainly as can be, with copies of all that it holds."""

    def __init__(self, book):
        self.state = (book, {}, 0)
        self.undone = []
        self.history = []

    def change(self, state, deed):
        """The state behind a deed, and what it tells; or the error that is due."""
        book, cards, last = deepcopy(state)
        kind, *rest = deed
        told = None
        if kind in ("put", "add"):
            notches(book, rest[0])
            if len(cards) == 60:
                raise LimitExceeded("cards")
            last += 1
            cards[last] = sorted(rest[0])
            told = last if kind == "put" else None
        elif kind in ("set", "strike"):
            if rest[0] not in cards:
                raise InvalidCard(rest[0])
            if kind == "set":
                notches(book, rest[1])
                cards[rest[0]] = sorted(rest[1])
            else:
                del cards[rest[0]]
        elif kind == "recode":
            book.code(rest[0])
            book = book.with_word(*rest)
        elif kind == "book":
            for word in sorted({word for words in cards.values() for word in words}):
                rest[0].code(word)
            book = rest[0]
        elif kind == "attempt":
            told = []
            for inner in rest[0]:
                (book, cards, last), answer = self.change((book, cards, last), inner)
                told.append(answer)
        return (book, cards, last), told

    def rows(self, state):
        """What report returns."""
        book, cards, _ = state
        return [(number, cards[number], false_words(book, cards[number])) for number in sorted(cards)]

    def do(self, deed):
        """Do anything, and tell what it tells."""
        if deed[0] in ("undo", "redo"):
            these, those = (self.history, self.undone) if deed[0] == "undo" else (self.undone, self.history)
            if not these:
                raise NothingLeft(deed[0])
            those.append(self.state)
            self.state = these.pop()
            return None
        if deed[0] == "trial":
            return self.rows(self.change(self.state, ("attempt", deed[1]))[0])
        state, told = self.change(self.state, deed)
        self.history.append(self.state)
        self.undone = []
        self.state = state
        return told


class RandomTest(unittest.TestCase):
    """Long histories, compared with the model above."""

    def random_book(self, dice):
        words = dice.sample("abcde", dice.randint(3, 5))
        return Book(5, {word: sorted(dice.sample(range(5), dice.randint(1, 3))) for word in words})

    def random_deed(self, dice, depth):
        kind = dice.choice(("put", "put", "set", "strike", "recode", "book", "attempt", "add", "trial", "undo", "redo",
                            "undo"))
        if depth > 0 and kind in ("add", "trial", "undo", "redo"):
            kind = "put"
        words = dice.sample("abcde", dice.randint(0, 3))
        number = dice.randint(1, 8)
        if kind in ("put", "add"):
            return (kind, words)
        if kind == "set":
            return (kind, number, words)
        if kind == "strike":
            return (kind, number)
        if kind == "recode":
            return (kind, dice.choice("abcde"), sorted(dice.sample(range(5), dice.randint(1, 3))))
        if kind == "book":
            return (kind, self.random_book(dice))
        if kind in ("attempt", "trial"):
            many = dice.randint(0, 4) if depth < 3 else 0
            return (kind, [self.random_deed(dice, depth + 1) for _ in range(many)])
        return (kind,)

    def outcome(self, call):
        try:
            return call()
        except CardError as error:
            return error.__class__, vars(error)

    def test_random_histories(self):
        dice = random.Random(71)
        errors = 0
        for _ in range(60):
            book = self.random_book(dice)
            drawer, model = Drawer(book), Model(book)
            for _ in range(60):
                deed = self.random_deed(dice, 0)
                expected = self.outcome(lambda: model.do(deed))
                self.assertEqual(self.outcome(lambda: do(drawer, deed)), expected, deed)
                errors += isinstance(expected, tuple)
                book, cards, last = model.state
                self.assertEqual(held(drawer), (book, sorted(cards.items()), last))
                self.assertEqual(drawer.report(), model.rows(model.state))
        self.assertTrue(300 < errors < 2500, errors)


if __name__ == "__main__":
    unittest.main()
