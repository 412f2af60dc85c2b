"""Points [92] to [95]: texts of questions."""

import ast
import random
import re
import unittest

from needledrop.errors import InvalidQuestion, InvalidText, LimitExceeded
from needledrop.texts import read_question, write_question
from helper import ODD_THINGS, OWN_THINGS, nested, raised, random_question

A, B, C = [("word", letter) for letter in "abc"]
TOO_LONG = (LimitExceeded, {"limit": "text"})
TOO_LARGE = (LimitExceeded, {"limit": "question"})
NO_STRINGS = ODD_THINGS + OWN_THINGS + (0, 1, -1, 10 ** 30, [], (), {}, ["a"], ("a",), {"a": 1}, b"a", A, nested("a", 20))


def is_expression(text):
    """True if the text shrinks to one part, when what is joined is replaced by one part, step by step."""
    text = re.sub("[a-z]+", lambda match: "X" if len(match[0]) <= 8 else "?", re.sub("([a-z]) +(?=[a-z])", r"\1?", text))
    text = text.replace(" ", "")
    before = None
    while text != before:
        before = text
        text = text.replace("!X", "X").replace("(X)", "X").replace("X&X", "X").replace("X|X", "X")
    return text == "X"


def begins_one(text):
    """True if some expression begins with the text."""
    # A factor, if one is due, and brackets complete each beginning.
    return any(is_expression(text + factor + ")" * more) for factor in ("", "a") for more in range(text.count("(") + 1))


def fault(text):
    """The length of the longest beginning of the text with which some expression begins."""
    return max(at for at in range(len(text) + 1) if begins_one(text[:at]))


def by_python(text):
    """The question of a text, read by Python's own signs, which bind in the same order."""
    signs = re.sub("[a-z]+", r"w_\g<0>", text).replace("!", "~")
    return by_tree(ast.parse("(" + signs + ")", mode="eval").body)


def by_tree(tree):
    """The question of such a tree."""
    if isinstance(tree, ast.Name):
        return ("word", tree.id[2:])
    if isinstance(tree, ast.UnaryOp):
        return ("not", by_tree(tree.operand))
    return ("and" if isinstance(tree.op, ast.BitAnd) else "or", by_tree(tree.left), by_tree(tree.right))


def brackets(text):
    """All pairs of places of brackets that belong together."""
    pairs, waiting = [], []
    for at, sign in enumerate(text):
        if sign == "(":
            waiting.append(at)
        if sign == ")":
            pairs.append((waiting.pop(), at))
    return pairs


def spaced(dice, text):
    """The text with other spaces."""
    parts = re.findall("[a-z]+|[^ ]", text)
    return "".join([" " * dice.choice((0, 0, 0, 1, 3)) + part for part in parts]) + " " * dice.choice((0, 1))


class ReadTest(unittest.TestCase):
    """Points [92] and [93]."""

    def test_words_and_signs(self):
        for text, question in (("a", A), ("abcdefgh", ("word", "abcdefgh")), ("!a", ("not", A)), ("a&b", ("and", A, B)),
                               ("a|b", ("or", A, B)), ("(a)", A), ("!!a", ("not", ("not", A))),
                               ("and", ("word", "and")), ("not", ("word", "not")), ("or|or", ("or", ("word", "or"),
                                                                                             ("word", "or")))):
            self.assertEqual(read_question(text), question)
        self.assertEqual(read_question(text="a | b"), ("or", A, B))

    def test_binding(self):
        for text, question in (("a|b&c", ("or", A, ("and", B, C))), ("a&b|c", ("or", ("and", A, B), C)),
                               ("!a&b", ("and", ("not", A), B)), ("!a|b", ("or", ("not", A), B)),
                               ("a&!b", ("and", A, ("not", B))), ("a&b&c", ("and", ("and", A, B), C)),
                               ("a|b|c", ("or", ("or", A, B), C)), ("a&(b&c)", ("and", A, ("and", B, C))),
                               ("a|(b|c)", ("or", A, ("or", B, C))), ("!(a&b)", ("not", ("and", A, B))),
                               ("!(a|b)&c", ("and", ("not", ("or", A, B)), C)), ("(a|b)&c", ("and", ("or", A, B), C)),
                               ("a|b&c|a", ("or", ("or", A, ("and", B, C)), A)),
                               ("a&b|c&a", ("or", ("and", A, B), ("and", C, A))),
                               ("!!(a)|((b))", ("or", ("not", ("not", A)), B))):
            self.assertEqual(read_question(text), question, text)

    def test_spaces(self):
        self.assertEqual(read_question("  ! ( a  |b )   &  ! c "), ("and", ("not", ("or", A, B)), ("not", C)))
        self.assertEqual(read_question("   a"), A)
        self.assertEqual(read_question("a   "), A)

    def test_example(self):
        question = ("or", A, ("and", B, ("not", ("or", C, A))))
        self.assertEqual(read_question("a|(b & (!((c|a))))"), question)
        self.assertEqual(write_question(question), "a | b & !(c | a)")
        self.assertEqual(write_question(question=question), "a | b & !(c | a)")

    def test_no_strings(self):
        for thing in NO_STRINGS:
            self.assertEqual(raised(read_question, thing), (InvalidText, {"at": -1}), thing)

    def test_two_hundred_characters(self):
        for text in ("a" + " " * 199, " " * 199 + "a", "(" * 99 + "aa" + ")" * 99):
            self.assertIsNone(raised(read_question, text))
            self.assertEqual(raised(read_question, text + " "), TOO_LONG)
        self.assertEqual(raised(read_question, "?" * 200), (InvalidText, {"at": 0}))
        for text in ("?" * 201, " " * 201, "(" * 201, "a" * 201, "\n" * 5000, "a&" * 100 + "a"):
            self.assertEqual(raised(read_question, text), TOO_LONG)

    def wrong(self, text, at):
        self.assertEqual(raised(read_question, text), (InvalidText, {"at": at}), text)
        self.assertEqual(fault(text), at, text)

    def test_wrong_texts(self):
        for text, at in (("", 0), (" ", 1), ("   ", 3), ("a b", 2), ("a  b", 3), ("a (b", 2), ("a | (b|", 7), ("a |", 3),
                         ("a | ", 4), ("a & |b", 4), ("a & & b", 4), ("a || b", 3), ("!", 1), ("! ", 2), ("a!", 1),
                         ("a ! b", 2), ("!a!", 2), ("()", 1), ("( )", 2), ("(", 1), ("(a", 2), ("(a ", 3), ("((a)", 4),
                         (")", 0), ("a)", 1), ("(a))", 3), ("(a)b", 3), ("(a)(b)", 3), ("(a) !b", 4), ("|", 0),
                         ("&a", 0), (" |a", 1), ("A", 0), ("aB", 1), ("a1", 1), ("a_b", 1), ("1", 0), ("a\n", 1),
                         ("\na", 0), ("a & \nb", 4), ("abcdefghi", 8), ("!abcdefghij", 9), ("a & abcdefghi", 12),
                         ("abcdefgh i", 9), ("a&&b", 2), ("a&b)", 3), ("(a|b))&c", 5), ("a~b", 1), ("-a", 0),
                         ("a + b", 2), ("{a}", 0), ("a.", 1), ("(a|b&)", 5), ("(|a)", 1), ("(a)!", 3)):
            self.wrong(text, at)

    def test_deep_texts_that_are_wrong(self):
        for text, at in (("(" * 200, 200), ("!" * 200, 200), ("(!" * 100, 200), ("(" * 100 + "a" + ")" * 99, 200),
                         ("(" * 99 + "a" + ")" * 100, 199), ("a&(" * 66 + "a", 199), ("a|" * 100, 200),
                         ("a&" * 98 + "a ?", 198), ("a&" * 99 + "a?", 199)):
            self.assertEqual(raised(read_question, text), (InvalidText, {"at": at}), text)

    def test_all_short_texts(self):
        signs = "a!&|() ?"
        texts = [""]
        for _ in range(5):
            texts = [text + sign for text in texts for sign in signs]
            for text in texts:
                if is_expression(text):
                    self.assertEqual(read_question(text), by_python(text))
                elif len(text) < 5:
                    self.wrong(text, fault(text))
                else:
                    self.assertEqual(raised(read_question, text)[0], InvalidText, text)

    def test_random_texts(self):
        dice = random.Random(91)
        for _ in range(1500):
            text = "".join(dice.choice(("a", "b", "!", "&", "|", "(", ")", " ", "abcdefgh", "zz")) for _ in
                           range(dice.randint(1, 14)))
            if is_expression(text):
                self.assertEqual(read_question(text), by_python(text))
            else:
                self.wrong(text, fault(text))

    def test_faults_in_longer_texts(self):
        dice = random.Random(92)
        for _ in range(400):
            text = spaced(dice, write_question(random_question(dice, ["a", "bc", "abcdefgh"], 12)))
            at = dice.randint(0, len(text))
            text = text[:at] + dice.choice(["", "x", "!", "&", "|", "(", ")", " ", "?"]) + text[at + dice.randint(0, 2):]
            if is_expression(text):
                self.assertEqual(read_question(text), by_python(text))
            else:
                self.wrong(text, fault(text))

    def test_nodes(self):
        self.assertIsNone(raised(read_question, "a&b&c|" * 2 + "a&b&c|!(a&b&c)"))
        twelve = "(a&b|c&a)&(a|b&c|a)|(a&b|!c&a)"
        self.assertEqual(by_python(twelve), read_question(twelve))
        self.assertIsNone(raised(read_question, twelve))
        self.assertEqual(raised(read_question, "!(" + twelve + ")"), TOO_LARGE)
        self.assertEqual(raised(read_question, twelve + "|a"), TOO_LARGE)
        self.assertEqual(raised(read_question, twelve + "|?"), (InvalidText, {"at": len(twelve) + 1}))

    def test_levels(self):
        self.assertIsNone(raised(read_question, "!" * 7 + "a"))
        for text in ("!" * 8 + "a", "!" * 8 + "(a)", "!" * 199 + "a", "!(" * 66 + "a" + ")" * 66, "a|" * 8 + "a",
                     "a&(" * 8 + "a" + ")" * 8):
            self.assertEqual(raised(read_question, text), TOO_LARGE, text)
        for text in ("a|" * 7 + "a", "a&(" * 7 + "a" + ")" * 7, "(" * 90 + "!" * 7 + "a" + ")" * 90):
            self.assertIsNone(raised(read_question, text), text)
        self.assertEqual(raised(read_question, "!" * 8 + "a?"), (InvalidText, {"at": 9}))

    def test_brackets_are_no_nodes(self):
        self.assertEqual(read_question("(" * 99 + "a" + ")" * 99), A)
        self.assertEqual(read_question("(((a)|((b))))"), ("or", A, B))


class WriteTest(unittest.TestCase):
    """Points [94] and [95]."""

    def test_brackets(self):
        both, either = ("and", A, B), ("or", A, B)
        for question, text in ((A, "a"), (("not", A), "!a"), (("not", ("not", A)), "!!a"), (both, "a & b"),
                               (either, "a | b"), (("not", both), "!(a & b)"), (("not", either), "!(a | b)"),
                               (("and", both, C), "a & b & c"), (("and", C, both), "c & (a & b)"),
                               (("and", either, C), "(a | b) & c"), (("and", C, either), "c & (a | b)"),
                               (("or", both, C), "a & b | c"), (("or", C, both), "c | a & b"),
                               (("or", either, C), "a | b | c"), (("or", C, either), "c | (a | b)"),
                               (("and", ("not", A), ("not", B)), "!a & !b"), (("or", ("not", A), ("not", B)), "!a | !b"),
                               (("not", ("not", either)), "!!(a | b)"),
                               (("and", ("not", both), ("not", either)), "!(a & b) & !(a | b)")):
            self.assertEqual(write_question(question), text)
            self.assertEqual(read_question(text), question)

    def test_random_questions(self):
        dice = random.Random(93)
        for _ in range(800):
            question = random_question(dice, ["a", "bc", "abcdefgh", "and", "not"], dice.randint(1, 24))
            text = write_question(question)
            self.assertEqual([read_question(text), by_python(text)], [question, question])
            self.assertEqual(read_question(spaced(dice, text)), question)
            self.assertEqual(re.sub(" [&|] ", "", text).count(" "), 0)
            self.assertEqual(len(re.findall("[&|]", text)), len(re.findall(" [&|] ", text)))
            for first, last in brackets(text):
                less = text[:first] + text[first + 1:last] + text[last + 1:]
                self.assertNotEqual(by_python(less), question)

    def test_wrong_questions(self):
        for thing in ODD_THINGS + OWN_THINGS + ("a", "", [], (), ["word", "a"], ("word",), ("word", "A"), ("and", A), 0):
            self.assertEqual(raised(write_question, thing), (InvalidQuestion, {"path": ()}))
            self.assertEqual(raised(write_question, ("and", ("not", A), ("not", thing))),
                             (InvalidQuestion, {"path": (2, 1)}))

    def test_levels_and_nodes(self):
        question = A
        for level in range(2, 13):
            question = ("not", question)
            if level <= 8:
                self.assertEqual(write_question(question), "!" * (level - 1) + "a")
            else:
                self.assertEqual(raised(write_question, question), (InvalidQuestion, {"path": (1,) * 8}))
        row = ("or", ("and", ("or", A, B), ("or", B, C)), ("and", ("or", A, B), ("not", C)))
        self.assertIsNone(raised(write_question, ("and", row, ("not", ("or", A, ("not", ("not", ("not", B))))))))
        self.assertEqual(raised(write_question, ("and", row, row)), (InvalidQuestion, {"path": (2, 2, 1)}))


if __name__ == "__main__":
    unittest.main()
