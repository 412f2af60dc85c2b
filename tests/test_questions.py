"""Points [60] to [67]: questions."""

import random
import unittest
from copy import deepcopy

from needledrop.books import Book, notches
from needledrop.covers import strength
from needledrop.errors import InvalidCount, InvalidHoles, InvalidQuestion, InvalidWords, NothingLeft, UnknownWord
from needledrop.questions import alike_questions, answer, blurred, extra, fallen, lost, question_words, right
from needledrop.questions import wrong_card
from needledrop.reading import barred_words, each_reading, maybe_words, sure_words, twins
from helper import NO_COUNTS, NO_INTEGERS, NO_LISTS, NO_WORDS, ODD_THINGS, OWN_THINGS, cards_by_search, example
from helper import large_books, nested, raised, random_question, sample, some_books, subsets, truth

A, B, C, D = [("word", letter) for letter in "abcd"]
# Each is no node, whatever stands around it.
NO_NODES = ODD_THINGS + OWN_THINGS + (
    0, -1, 10 ** 30, "", "a", "word", "and", (), [], {}, ("word",), ("and",), ("or", A), ("not",), ("word", "a", "b"),
    ("and", A, B, C), ("or", A, B, A, B), ("not", A, B), ["word", "a"], ["not", A], [A], (A,), (A, B), ("nor", A, B),
    ("Word", "a"), ("WORD", "a"), ("word ", "a"), ("a", "word"), ("and", A), ("not", A, None), (b"word", "a"),
    (None, "a"), (True, A), (0, A, B), (["word"], "a"), ({"word": 1}, "a"), ({"not"}, A), (("word",), "a"),
    ({"word": "a"},), {"word": "a"}, {"word", "a"}, ("", A), ("not ", A), ("NOT", A), ("!", A), ("&", A, B),
    (sample(), A), nested(A, 20)) + tuple([("word", word) for word in NO_WORDS])


def chain(levels):
    """A question that stands on so many levels."""
    return A if levels == 1 else ("not", chain(levels - 1))


def tree(levels):
    """A question with all parts down to this level."""
    return A if levels == 1 else ("or", tree(levels - 1), tree(levels - 1))


def preorder(question, path=()):
    """The paths of all nodes, each before its parts."""
    yield path
    if question[0] != "word":
        for at in range(1, len(question)):
            yield from preorder(question[at], path + (at,))


def put_at(question, path, thing):
    """The question with something else at the path."""
    if path == ():
        return thing
    return tuple(put_at(part, path[1:], thing) if at == path[0] else part for at, part in enumerate(question))


def just(nodes):
    """A question of so many nodes, an odd number of them, in few levels."""
    if nodes == 1:
        return B
    left = (nodes - 1) // 2
    left = left if left % 2 else left - 1
    return ("and", just(left), just(nodes - 1 - left))


CALLS = (("right", lambda book, question: right(book, question, [])),
         ("fallen", lambda book, question: fallen(book, question, ())),
         ("extra", lambda book, question: extra(book, question, 2)),
         ("lost", lambda book, question: lost(book, question, 2)),
         ("wrong_card", lambda book, question: wrong_card(book, question, 2)),
         ("first", lambda book, question: alike_questions(book, question, A, 2)),
         ("second", lambda book, question: alike_questions(book, A, question, 2)),
         ("blurred", lambda book, question: blurred(book, question, 2)),
         ("answer", lambda book, question: answer(book, question, (), 2)))


class FormTest(unittest.TestCase):
    """Points [60] and [61], and question_words of point [62]."""

    def wrong(self, question, path):
        expected = (InvalidQuestion, {"path": path})
        self.assertEqual(raised(question_words, question), expected, question)
        for name, call in CALLS:
            self.assertEqual(raised(call, example(), question), expected, (name, question))

    def fine(self, question):
        self.assertIsNone(raised(question_words, question), question)
        for name, call in CALLS:
            self.assertIsNone(raised(call, example(), question), (name, question))

    def test_words(self):
        self.assertEqual(question_words(("word", "abcdefgh")), ["abcdefgh"])
        self.assertEqual(question_words(question=("not", B)), ["b"])
        self.assertEqual([question_words(("and", B, A)), question_words(("or", B, ("not", B)))], [["a", "b"], ["b"]])
        self.assertEqual(question_words(("or", ("and", ("word", "z"), ("word", "ab")), ("or", ("word", "aa"), A))),
                         ["a", "aa", "ab", "z"])

    def test_words_may_have_the_names_of_the_forms(self):
        for name in ("word", "and", "or", "not"):
            self.assertEqual(question_words(("and", ("word", name), ("not", ("word", name)))), [name])

    def test_a_new_list_on_each_call(self):
        question_words(A).append("x")
        self.assertEqual(question_words(A), ["a"])

    def test_no_nodes(self):
        for thing in NO_NODES:
            self.wrong(thing, ())
            for question in (("not", A), ("and", A, B), ("or", ("not", A), ("and", B, ("or", C, D)))):
                for path in preorder(question):
                    self.wrong(put_at(question, path, thing), path)

    def test_a_node_comes_before_its_parts(self):
        self.wrong(("and", 5, 6, 7), ())
        self.wrong(("not", ("or", None)), (1,))
        self.wrong(("nor", 5, ("word", "A")), ())

    def test_parts_come_from_left_to_right(self):
        self.wrong(("and", 5, 6), (1,))
        self.wrong(("and", ("or", A, ("not", 5)), 6), (1, 2, 1))
        self.wrong(("and", ("or", A, ("not", B)), 6), (2,))
        self.wrong(("or", ("or", A, ("not", B)), ("and", ("or", 6, 7), 8)), (2, 1, 1))
        self.wrong(("or", ("and", A, 5), ("not",)), (1, 2))

    def test_example(self):
        self.wrong(("and", B, ("not", ("word", "A"))), (2, 1))

    def test_levels(self):
        self.fine(chain(8))
        self.wrong(chain(9), (1,) * 8)
        self.wrong(chain(30), (1,) * 8)
        self.wrong(put_at(chain(8), (1,) * 7, 5), (1,) * 7)
        self.wrong(put_at(chain(9), (1,) * 8, 5), (1,) * 8)
        self.wrong(("and", chain(8), 5), (1,) * 8)
        self.wrong(("and", chain(7), 5), (2,))
        self.wrong(("or", A, chain(8)), (2,) + (1,) * 7)
        self.wrong(("and", 5, chain(9)), (1,))

    def test_nodes(self):
        self.fine(just(23))
        self.fine(("not", just(23)))
        self.assertEqual(len(list(preorder(just(25)))), 25)
        for question in (just(25), ("not", just(25)), ("and", just(23), B), ("and", just(23), just(3)), tree(6)):
            self.wrong(question, list(preorder(question))[24])
        self.fine(("and", ("not", just(21)), A))
        self.wrong(("or", ("and", ("not", just(21)), A), B), (1, 2))
        self.wrong(("and", ("not", ("not", just(21))), A), (2,))

    def test_the_same_tuple_at_two_places_is_two_nodes(self):
        question = A
        for levels in range(2, 9):
            question = ("or", question, question)
            if levels <= 4:
                self.fine(question)
            else:
                self.wrong(question, list(preorder(question))[24])

    def test_what_comes_first_of_all(self):
        # The first wrong node counts, for whatever reason it is wrong.
        for levels in (5, 6, 7):
            paths = list(preorder(tree(levels)))
            for at in (3, 10, 23, 24, 25, 30):
                self.wrong(put_at(tree(levels), paths[at], 5), paths[min(at, 24)])
        self.wrong(("and", just(15), chain(9)), (2,) + (1,) * 7)
        self.wrong(("and", just(21), chain(9)), (2, 1, 1))
        self.wrong(("or", chain(9), just(23)), (1,) * 8)

    def test_random_questions(self):
        dice = random.Random(31)
        for _ in range(300):
            question = random_question(dice, "abcd", dice.randint(1, 24))
            paths = list(preorder(question))
            self.assertLessEqual(len(paths), 24)
            self.fine(question)
            at = dice.randrange(len(paths))
            self.wrong(put_at(question, paths[at], dice.choice(NO_NODES)), paths[at])


class UnknownTest(unittest.TestCase):
    """The second check of point [61]."""

    def unknown(self, question, word):
        for name, call in CALLS:
            self.assertEqual(raised(call, example(), question), (UnknownWord, {"word": word}), (name, question))

    def test_the_first_unknown_word(self):
        self.unknown(("word", "e"), "e")
        self.unknown(("not", ("word", "aa")), "aa")
        self.unknown(("and", ("or", A, ("word", "z")), ("word", "e")), "z")
        self.unknown(("and", ("word", "z"), ("word", "e")), "z")
        self.unknown(("or", A, ("or", ("and", B, ("word", "f")), ("word", "e"))), "f")
        for name in ("word", "and", "or", "not"):
            self.unknown(("word", name), name)

    def test_a_book_without_words(self):
        for name, call in CALLS:
            if name != "second":
                self.assertEqual(raised(call, Book(3, {}), A), (UnknownWord, {"word": "a"}))

    def test_wrong_nodes_come_first(self):
        for name, call in CALLS:
            self.assertEqual(raised(call, example(), ("and", ("word", "z"), 5)), (InvalidQuestion, {"path": (2,)}))
            self.assertEqual(raised(call, example(), ("and", ("word", "z"), chain(8))),
                             (InvalidQuestion, {"path": (2,) + (1,) * 7}))

    def test_question_words_need_no_book(self):
        self.assertEqual(question_words(("and", ("word", "zz"), ("word", "y"))), ["y", "zz"])


class OrderTest(unittest.TestCase):
    """Arguments are checked from left to right."""

    def test_right(self):
        unknown = ("word", "z")
        self.assertEqual(raised(right, example(), 5, 5), (InvalidQuestion, {"path": ()}))
        self.assertEqual(raised(right, example(), unknown, 5), (UnknownWord, {"word": "z"}))
        for words in NO_LISTS:
            self.assertEqual(raised(right, example(), A, words), (InvalidWords, {"at": -1}))
        for word in NO_WORDS:
            self.assertEqual(raised(right, example(), A, ["b", word]), (InvalidWords, {"at": 1}))
        self.assertEqual(raised(right, example(), A, ("a", "c", "a")), (InvalidWords, {"at": 2}))
        self.assertEqual(raised(right, example(), A, ["a", "e"]), (UnknownWord, {"word": "e"}))
        self.assertEqual(raised(right, example(), A, ["a"] * 15), (InvalidWords, {"at": -1}))

    def test_fallen(self):
        unknown = ("word", "z")
        self.assertEqual(raised(fallen, example(), 5, 5), (InvalidQuestion, {"path": ()}))
        self.assertEqual(raised(fallen, example(), unknown, 5), (UnknownWord, {"word": "z"}))
        for holes in NO_LISTS:
            self.assertEqual(raised(fallen, example(), A, holes), (InvalidHoles, {"at": -1}))
        for hole in NO_INTEGERS + (-1, 0, 1, 4, 10 ** 30):
            self.assertEqual(raised(fallen, example(), A, (1, hole)), (InvalidHoles, {"at": 1}))

    def test_counts(self):
        unknown = ("word", "z")
        for call in (extra, lost, wrong_card, blurred):
            for k in NO_COUNTS:
                self.assertEqual(raised(call, example(), A, k), (InvalidCount, {}))
                self.assertEqual(raised(call, example(), 5, k), (InvalidQuestion, {"path": ()}))
                self.assertEqual(raised(call, example(), unknown, k), (UnknownWord, {"word": "z"}))
        for k in NO_COUNTS:
            self.assertEqual(raised(alike_questions, example(), A, A, k), (InvalidCount, {}))

    def test_two_questions(self):
        unknown = ("word", "z")
        other = ("word", "y")
        self.assertEqual(raised(alike_questions, example(), unknown, 5, 0), (UnknownWord, {"word": "z"}))
        self.assertEqual(raised(alike_questions, example(), 5, unknown, 0), (InvalidQuestion, {"path": ()}))
        self.assertEqual(raised(alike_questions, example(), ("not", 5), 5, 0), (InvalidQuestion, {"path": (1,)}))
        self.assertEqual(raised(alike_questions, example(), A, ("not", 5), 0), (InvalidQuestion, {"path": (1,)}))
        self.assertEqual(raised(alike_questions, example(), unknown, other, 0), (UnknownWord, {"word": "z"}))
        self.assertEqual(raised(alike_questions, example(), A, other, 0), (UnknownWord, {"word": "y"}))

    def test_answer(self):
        unknown = ("word", "z")
        self.assertEqual(raised(answer, example(), 5, 5, 0, torn=4), (InvalidQuestion, {"path": ()}))
        self.assertEqual(raised(answer, example(), unknown, 5, 0, torn=4), (UnknownWord, {"word": "z"}))
        for holes in NO_LISTS:
            self.assertEqual(raised(answer, example(), A, holes, 0, torn=4), (InvalidHoles, {"at": -1}))
        for hole in NO_INTEGERS + (-1, 0, 1, 4):
            self.assertEqual(raised(answer, example(), A, [1, hole], 0, torn=4), (InvalidHoles, {"at": 1}))
        for k in NO_COUNTS:
            self.assertEqual(raised(answer, example(), A, (3,), k, torn=4), (InvalidCount, {}))
        for torn in NO_INTEGERS + (-1, 4, 10 ** 30):
            self.assertEqual(raised(answer, example(), A, (3,), 2, torn=torn), (InvalidCount, {}))
        for torn in ({}, {"torn": 0}):
            self.assertEqual(raised(answer, example(), A, (3,), 2, **torn), (NothingLeft, {"what": "reading"}))
        self.assertIsNone(raised(answer, example(), A, (3,), 2, torn=1))

    def test_torn_is_passed_by_name(self):
        with self.assertRaises(TypeError):
            answer(example(), A, (3,), 2, 1)


def questions_for(dice, book, many):
    """Random questions about words of the book, if it has any; with "not" in front they are questions too."""
    if len(book) == 0:
        return []
    return [random_question(dice, book.words(), dice.randint(1, 12), 7) for _ in range(many)]


class AnswersTest(unittest.TestCase):
    """Points [62] to [66], compared with a look at all cards."""

    def cards(self, book, question, cards):
        """Tuples of the words of each card, whether it is told, and whether the question is right for it."""
        return [(list(words), truth(question, {word for word in book if set(book.code(word)) <= holes}),
                 truth(question, words)) for words, holes in cards.items()]

    def wrong_cards(self, book, question, k, cards):
        asked = self.cards(book, question, cards)
        for call, kinds in ((extra, ((True, False),)), (lost, ((False, True),)),
                            (wrong_card, ((True, False), (False, True)))):
            found = [words for words, told, fits in asked if (told, fits) in kinds]
            self.assertEqual(call(book, question, k), found[0] if found else None)

    def blurred(self, book, question, k, cards):
        pair = blurred(book, question, k)
        groups = {}
        for words, holes in cards.items():
            groups.setdefault(frozenset(holes), set()).add(truth(question, words))
        if max(len(group) for group in groups.values()) == 1:
            self.assertIsNone(pair)
        else:
            self.assertEqual([pair.__class__, [words.__class__ for words in pair]], [tuple, [list, list]])
            yes, no = pair
            self.assertEqual(cards[tuple(yes)], cards[tuple(no)])
            self.assertEqual([truth(question, yes), truth(question, no)], [True, False])

    def alike(self, book, first, second, k, cards):
        pairs = zip(self.cards(book, first, cards), self.cards(book, second, cards))
        found = [one[0] for one, other in pairs if one[1] != other[1]]
        self.assertEqual(alike_questions(book, first, second, k), found[0] if found else None)

    def all_of(self, book, questions, k):
        cards = cards_by_search(book, k)
        for at, question in enumerate(questions):
            self.wrong_cards(book, question, k, cards)
            self.blurred(book, question, k, cards)
            self.alike(book, question, questions[at - 1], k, cards)

    def test_small_books(self):
        dice = random.Random(41)
        for book in some_books():
            for k in (1, 2, 3, 14):
                self.all_of(book, questions_for(dice, book, 3), k)

    def test_large_books(self):
        dice = random.Random(42)
        for at, book in enumerate(large_books()):
            for k in (1, 3, 14) if at % 2 == 0 else (2, 4):
                self.all_of(book, questions_for(dice, book, 2 if k < 14 else 1), k)

    def test_right_and_fallen(self):
        dice = random.Random(43)
        for book in some_books():
            for question in questions_for(dice, book, 4):
                for words in subsets(book.words())[::3]:
                    words = list(words)
                    dice.shuffle(words)
                    self.assertIs(right(book, question, dice.choice((list, tuple))(words)), truth(question, words))
                for _ in range(8):
                    holes = sorted(dice.sample(range(book.n), dice.randint(0, book.n)))
                    falling = [word for word in book if set(book.code(word)) <= set(holes)]
                    self.assertIs(fallen(book, question, dice.choice((list, tuple))(holes)),
                                  truth(question, falling))

    def answer(self, book, question, holes, k, torn):
        found = [list(words) for words, held in cards_by_search(book, k).items()
                 if held <= set(holes) and len(set(holes) - held) <= torn]
        answers = {truth(question, words) for words in found}
        if not found:
            self.assertEqual(raised(answer, book, question, holes, k, torn=torn), (NothingLeft, {"what": "reading"}))
        else:
            self.assertIs(answer(book, question, holes, k, torn=torn), None if len(answers) == 2 else answers.pop())

    def test_answer(self):
        dice = random.Random(44)
        for book in some_books():
            for question in questions_for(dice, book, 4):
                words = dice.sample(book.words(), dice.randint(0, min(len(book), 3)))
                holes = sorted({*notches(book, words), *dice.sample(range(book.n), dice.randint(0, 1))})
                for k, torn in ((1, 0), (2, 1), (14, 0), (3, 3)):
                    self.answer(book, question, holes, k, torn)

    def test_answer_of_many_readings(self):
        book = Book(1, {letter: (0,) for letter in "abcdefghijklmn"})
        self.assertIsNone(answer(book, A, (0,), 14))
        self.assertIs(answer(book, ("or", A, ("not", A)), (0,), 14, torn=3), True)
        self.assertIs(answer(book, ("and", A, ("not", A)), (0,), 14), False)


class ExamplesTest(unittest.TestCase):
    def test_example(self):
        book = example()
        self.assertEqual([extra(book, D, 2), lost(book, ("not", D), 2)], [["a", "b"]] * 2)
        self.assertEqual([lost(book, D, 2), extra(book, ("not", D), 2), extra(book, D, 1)], [None] * 3)

    def test_by_name(self):
        book = example()
        self.assertIs(right(words=["a"], question=A, book=book), True)
        self.assertIs(fallen(holes=[0], question=A, book=book), False)
        for call in (extra, wrong_card):
            self.assertEqual(call(k=2, question=D, book=book), ["a", "b"])
        self.assertIsNone(lost(k=2, question=D, book=book))
        self.assertEqual(alike_questions(k=2, second=A, first=D, book=book), ["a"])
        yes, no = blurred(k=3, question=D, book=book)
        self.assertEqual([right(book, D, yes), right(book, D, no), notches(book, yes)], [True, False, notches(book, no)])
        self.assertIsNone(answer(torn=0, k=2, holes=(0, 1, 2), question=D, book=book))

    def test_answers(self):
        book = example()
        self.assertIs(answer(book, C, (0, 1, 2), 2), False)
        self.assertIs(answer(book, ("not", C), (0, 1, 2), 2), True)
        self.assertIsNone(answer(book, A, (0, 1, 2), 2))
        self.assertIs(answer(book, ("or", A, ("or", B, D)), (0, 1, 2), 2), True)
        self.assertIs(answer(book, A, (0, 1, 3), 2, torn=1), True)
        self.assertIs(answer(book, A, (), 2), False)

    def test_order_of_cards(self):
        # Fewer words come first, then the order of lists.
        book = Book(2, {"aa": (0, 1), "b": (0,), "c": (1,), "bb": (0, 1), "d": (0,)})
        self.assertEqual([extra(book, ("word", "c"), 3), extra(book, ("word", "d"), 1),
                          extra(book, ("and", ("word", "d"), ("not", ("word", "aa"))), 5)], [["aa"], ["aa"], ["b"]])
        self.assertEqual(extra(book, ("and", ("word", "b"), ("not", ("word", "c"))), 3), ["d"])
        self.assertEqual(lost(book, ("and", ("word", "b"), ("not", ("word", "c"))), 3), ["aa", "b"])
        self.assertEqual(wrong_card(book, ("not", ("word", "aa")), 3), ["bb"])
        self.assertEqual(alike_questions(book, ("word", "aa"), ("word", "d"), 3), ["b"])

    def test_the_empty_card_counts(self):
        book = example()
        self.assertEqual(alike_questions(book, A, ("not", A), 1), [])
        self.assertIsNone(wrong_card(book, ("not", A), 1))

    def test_what_was_returned_may_be_changed(self):
        book = example()
        for call in (lambda: extra(book, D, 2), lambda: lost(book, ("not", D), 2), lambda: wrong_card(book, D, 2),
                     lambda: alike_questions(book, A, D, 2), lambda: blurred(book, D, 3)[0],
                     lambda: blurred(book, D, 3)[1]):
            expected = list(call())
            call().append("x")
            self.assertEqual(call(), expected)

    def test_arguments_are_not_changed(self):
        words, holes = ["d", "a"], [0, 1, 2]
        question = ("and", A, ("not", B))
        before = deepcopy(question)
        right(example(), question, words)
        fallen(example(), question, holes)
        answer(example(), question, holes, 2)
        self.assertEqual([words, holes, question], [["d", "a"], [0, 1, 2], before])


class FactsTest(unittest.TestCase):
    """Point [67]."""

    def test_not(self):
        dice = random.Random(45)
        for book in some_books()[::2]:
            for question in questions_for(dice, book, 4):
                for k in (1, 2, 14):
                    if "not" not in str(question):
                        self.assertIsNone(lost(book, question, k))
                    self.assertEqual(extra(book, ("not", question), k), lost(book, question, k))
                    self.assertEqual(lost(book, ("not", question), k), extra(book, question, k))

    def test_strong_books(self):
        dice = random.Random(46)
        for book in some_books():
            found = strength(book)
            for k in (1, 2, 3):
                if found is None or found >= k:
                    for question in questions_for(dice, book, 3):
                        self.assertIsNone(wrong_card(book, question, k))
                else:
                    self.assertTrue(any(wrong_card(book, ("word", word), k) is not None for word in book))

    def test_twins(self):
        dice = random.Random(47)
        for book in some_books():
            for k in (1, 2, 3):
                sharp = all(blurred(book, ("word", word), k) is None for word in book)
                self.assertEqual(twins(book, k) is None, sharp)
                if sharp:
                    for question in questions_for(dice, book, 3):
                        self.assertIsNone(blurred(book, question, k))

    def test_readings(self):
        dice = random.Random(48)
        for book in some_books():
            holes = notches(book, dice.sample(book.words(), min(2, len(book))))
            for torn in (0, 1):
                arguments = (book, holes, 2)
                for words, expected in ((sure_words(*arguments, torn=torn), True),
                                        (maybe_words(*arguments, torn=torn), None),
                                        (barred_words(*arguments, torn=torn), False)):
                    for word in words:
                        self.assertIs(answer(book, ("word", word), holes, 2, torn=torn), expected)
                self.assertGreater(len(list(each_reading(*arguments, torn=torn))), 0)


if __name__ == "__main__":
    unittest.main()
