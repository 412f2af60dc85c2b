"""Points [90], [91] and [95]: texts of books and drawers."""

import random
import re
import unittest

from needledrop.books import Book
from needledrop.drawer import Drawer
from needledrop.errors import InvalidText, NothingLeft
from needledrop.texts import read_book, read_drawer, write_book, write_drawer
from helper import ODD_THINGS, OWN_THINGS, example, held, large_books, nested, raised, sample, some_books

NO_STRINGS = ODD_THINGS + OWN_THINGS + (0, 1, -1, 10 ** 30, [], (), {}, ["holes 4\n"], ("holes 4\n",), {"holes": 4},
                                        b"holes 4\n", nested("a", 20))
HEAD = "holes 9\ncode a 0 1\ncode bb 2 3 8\ncode c 0\n"
FOURTEEN = "abcdefghijklmn"


def lines_of(text):
    """The lines, each with its newline character, but for the last one perhaps."""
    return re.findall(r"[^\n]*\n|[^\n]+$", text)


def number_in(text, most):
    """True if the text is a number from 0 to most."""
    return re.fullmatch("0|[1-9][0-9]{0,20}", text) is not None and int(text) <= most


def wrong_line(text, with_cards):
    """The first wrong line, looked for line by line; or None."""
    lines = lines_of(text)
    first = re.fullmatch("holes ([^ \n]*)\n", lines[0]) if lines else None
    if not first or not number_in(first[1], 24) or first[1] == "0":
        return 1
    n = int(first[1])
    words, numbers = [""], [0]
    for at, line in enumerate(lines[1:], 2):
        code = re.fullmatch("code ([a-z]{1,8})((?: [^ \n]+){1,8})\n", line)
        card = re.fullmatch("card ([^ \n]+)((?: [^ \n]+)*)\n", line)
        if code and len(numbers) == 1:
            holes = code[2].split()
            if not all(number_in(hole, n - 1) for hole in holes) or code[1] <= words[-1] or len(words) > 14:
                return at
            if sorted(set(map(int, holes))) != list(map(int, holes)):
                return at
            words.append(code[1])
        elif card and with_cards:
            if not number_in(card[1], 10 ** 9) or int(card[1]) <= numbers[-1] or len(numbers) > 60:
                return at
            if not set(card[2].split()) <= set(words) or sorted(set(card[2].split())) != card[2].split():
                return at
            numbers.append(int(card[1]))
        else:
            return at
    return None


def some_drawers():
    """Drawers with and without cards, also those from which cards were struck."""
    dice = random.Random(81)
    for book in some_books()[::3] + list(large_books()):
        drawer = Drawer.of(book, [dice.sample(book.words(), dice.randint(0, len(book)))
                                  for _ in range(dice.choice((0, 1, 5, 60)))])
        for number in drawer.numbers():
            if dice.random() < 0.3:
                drawer.strike(number)
        yield drawer


class WriteTest(unittest.TestCase):
    """Point [90]."""

    def test_books(self):
        self.assertEqual(write_book(book=sample()),
                         "holes 6\ncode ash 0 1\ncode bay 1 2\ncode cob 0 2\ncode dew 3 4 5\n")
        self.assertEqual(write_book(Book(24, {})), "holes 24\n")
        self.assertEqual(write_book(Book(24, {"b": (10, 23), "ab": [0], "a": (9, 10, 11)})),
                         "holes 24\ncode a 9 10 11\ncode ab 0\ncode b 10 23\n")

    def test_drawers(self):
        drawer = Drawer.of(example(), [["b", "a"], [], ["d"]])
        head = "holes 4\ncode a 0 1\ncode b 1 2\ncode c 2 3\ncode d 0 2\n"
        self.assertEqual(write_drawer(drawer=drawer), head + "card 1 a b\ncard 2\ncard 3 d\n")
        drawer.strike(1)
        drawer.recode("b", [3])
        self.assertEqual(write_drawer(drawer), head.replace("1 2", "3") + "card 2\ncard 3 d\n")
        self.assertEqual(write_drawer(Drawer(example())), write_book(example()))
        self.assertEqual(write_drawer(Drawer(Book(1, {}))), "holes 1\n")

    def test_nothing_is_changed(self):
        drawer = Drawer.of(example(), [["b", "a"]])
        drawer.put([])
        drawer.undo()
        write_drawer(drawer)
        drawer.redo()
        drawer.undo()
        self.assertEqual(raised(drawer.undo), (NothingLeft, {"what": "undo"}))


class ReadTest(unittest.TestCase):
    """Reading fine texts, as point [91] says, and point [95]."""

    def test_books(self):
        self.assertEqual(read_book(text="holes 4\ncode ash 0 1\ncode b 3\n"), Book(4, {"ash": (0, 1), "b": (3,)}))
        for n in range(1, 25):
            self.assertEqual(read_book(f"holes {n}\n"), Book(n, {}))
        self.assertEqual(read_book("holes 24\ncode abcdefgh 0 1 2 3 4 5 6 23\n"),
                         Book(24, {"abcdefgh": (0, 1, 2, 3, 4, 5, 6, 23)}))

    def test_what_was_written(self):
        for book in [*some_books(), *large_books()]:
            text = write_book(book)
            self.assertEqual([read_book(text), write_book(read_book(text))], [book, text])
            self.assertEqual(held(read_drawer(text)), (book, [], 0))
        for drawer in some_drawers():
            text = write_drawer(drawer)
            other = read_drawer(text=text)
            self.assertEqual([other.book, list(other.cards())], [drawer.book, list(drawer.cards())])
            self.assertEqual(write_drawer(other), text)

    def test_drawers(self):
        drawer = read_drawer(HEAD + "card 3 a c\ncard 7\ncard 10 a bb c\n")
        self.assertEqual(drawer.__class__, Drawer)
        self.assertEqual(held(drawer), (read_book(HEAD), [(3, ["a", "c"]), (7, []), (10, ["a", "bb", "c"])], 10))
        for call, what in ((drawer.undo, "undo"), (drawer.redo, "redo")):
            self.assertEqual(raised(call), (NothingLeft, {"what": what}))
        self.assertEqual(drawer.put(["c"]), 11)

    def test_the_last_number(self):
        drawer = Drawer.of(example(), [["a"], ["b"]])
        drawer.strike(2)
        self.assertEqual(read_drawer(write_drawer(drawer)).put([]), 2)
        drawer.strike(1)
        self.assertEqual(read_drawer(write_drawer(drawer)).put([]), 1)
        self.assertEqual(read_drawer("holes 1\ncard 1000000000\n").numbers(), [10 ** 9])

    def test_most_words_and_cards(self):
        book = Book(14, {letter: (at,) for at, letter in enumerate(FOURTEEN)})
        drawer = Drawer.of(book, [book.words()] * 60)
        self.assertEqual(held(read_drawer(write_drawer(drawer))), held(drawer))


class WrongTest(unittest.TestCase):
    """The errors of point [91]."""

    def wrong(self, text, at, reads=(read_book, read_drawer)):
        for read in reads:
            self.assertEqual(raised(read, text), (InvalidText, {"at": at}), (read, text))
            if at > 0:
                self.assertEqual(wrong_line(text, read == read_drawer), at, text)

    def test_no_strings(self):
        for thing in NO_STRINGS:
            self.wrong(thing, 0)

    def test_no_line(self):
        self.wrong("", 1)

    def test_the_first_line(self):
        for line in ("", " ", "holes", "holes ", "holes  4", " holes 4", "holes 4 ", "holes 4 4", "hole 4", "Holes 4",
                     "holes 0", "holes 25", "holes 04", "holes 00", "holes +4", "holes -4", "holes 4.0", "holes x",
                     "holes 1e1", "holes 100", "holes " + "9" * 5000, "holes " + "0" * 5000, "holes 1_0", "holes4", "4",
                     "code a 0", "card 1", "holes 4 code a 0"):
            for rest in ("\n", "\ncode a 0\n", "", "\nnothing\n", "\n\n"):
                self.wrong(line + rest, 1)
        self.wrong("holes 4", 1)
        self.wrong("\nholes 4\n", 1)

    def test_code_lines(self):
        for line in ("", " ", "code", "code ", "code d", "code d ", "code d  1", " code d 1", "code d 1 ", "code  d 1",
                     "Code d 1", "codes d 1", "code D 1", "code d1 1", "code abcdefghi 1", "code d-e 1", "code 1",
                     "code d 9", "code d 1 9", "code d 1 1", "code d 2 1", "code d 01", "code d 00", "code d -1",
                     "code d +1", "code d x", "code d 1 x", "code d 1,2", "code d 1.0", "code d 0 1 2 3 4 5 6 7 8",
                     "code d " + "1" * 5000, "code " + "d" * 5000 + " 1", "code c 1", "code b 1", "code bb 1",
                     "code a 1", "code aa 1", "holes 9", "word d 1", "d 1", "code d 1 code e 2", "\t", "code d 1 2 10"):
            for rest in ("\n", "\ncode e 0\n", "", "\nnothing\n", "\n\n", "\ncard 1\n"):
                if line + rest:
                    self.wrong(HEAD + line + rest, 5)
            self.wrong(HEAD + "code cc 5\n" + line + "\n", 6)

    def test_no_end_of_a_line(self):
        self.wrong(HEAD + "code d 1", 5)
        self.wrong(HEAD[:-1], 4)
        self.wrong(HEAD + "card 1\ncard 2 a", 6, (read_drawer,))
        self.wrong(HEAD + "code d 9\ncode e 1", 5)

    def test_empty_lines(self):
        self.wrong(HEAD + "\n", 5)
        self.wrong("holes 9\n\ncode a 1\n", 2)
        self.wrong(HEAD + "card 1\n\n", 6, (read_drawer,))

    def test_fifteen_words(self):
        rows = [f"code {letter} {at}\n" for at, letter in enumerate(FOURTEEN)]
        self.assertEqual(len(read_book("holes 14\n" + "".join(rows))), 14)
        self.wrong("holes 14\n" + "".join(rows) + "code o 0\n", 16)
        self.wrong("holes 14\n" + "".join(rows) + "code o 0\ncode p 0\n", 16)

    def test_cards_in_a_book(self):
        self.wrong(HEAD + "card 1\n", 5, (read_book,))
        self.wrong(HEAD + "card 1 a\ncard 0\n", 5, (read_book,))
        self.assertIsNone(raised(read_drawer, HEAD + "card 1\n"))

    def test_code_lines_behind_cards(self):
        self.wrong(HEAD + "card 1\ncode d 1\n", 6, (read_drawer,))
        self.wrong(HEAD + "card 1\ncode d 1\ncard 2\n", 6, (read_drawer,))
        self.wrong("holes 4\ncard 1\ncard 2\ncode d 1\n", 4, (read_drawer,))

    def test_card_lines(self):
        for line in ("card", "card ", "card 0", "card 00", "card 05", "card -5", "card +5", "card x", "card 5 ",
                     "card  5", " card 5", "card 5  a", "card 5 a ", "card 5 z", "card 5 a z", "card 5 b", "card 5 A",
                     "card 5 a a", "card 5 c a", "card 5 bb a c", "card 5 1", "card a", "card 4", "card 3", "card 1",
                     "card 1000000001", "card 9999999999", "card 10000000000", "card " + "9" * 5000, "Card 5", "cards 5",
                     "card 5.0", "card 5,a", "card5", "5 a", "holes 9", "code d 1", "", " "):
            for rest in ("\n", "\ncard 9\n", "", "\nnothing\n", "\n\n"):
                if line + rest:
                    self.wrong(HEAD + "card 4 a\n" + line + rest, 6, (read_drawer,))
        self.wrong(HEAD + "card 0\n", 5, (read_drawer,))
        self.wrong("holes 4\ncode a 0 1\ncard 2 a\ncard 2\n", 4, (read_drawer,))

    def test_sixty_one_cards(self):
        rows = [f"card {number}\n" for number in range(1, 62)]
        self.assertEqual(len(read_drawer("holes 1\n" + "".join(rows[:60]))), 60)
        self.wrong("holes 1\n" + "".join(rows), 62, (read_drawer,))
        self.wrong("holes 1\n" + "".join(rows) + "card x\n", 62, (read_drawer,))

    def test_the_first_wrong_line_counts(self):
        text = HEAD.replace("code c 0", "code c 0 0") + "card 0\ncode d"
        self.wrong(text, 4)
        self.wrong(HEAD + "card 7\ncard 5\ncard 0\n", 6, (read_drawer,))

    def test_texts_with_small_faults(self):
        dice = random.Random(82)
        texts = [write_drawer(drawer) for drawer in some_drawers() if len(drawer) < 8]
        fine = 0
        for _ in range(4000):
            text = dice.choice(texts)
            for _ in range(dice.randint(1, 2)):
                at = dice.randint(0, len(text))
                width = dice.choice((0, 0, 1, 1, 1, 2))
                text = text[:at] + dice.choice(["", "", *"0123456789 \nabcz", "\n", "\ncard 1", " 0"]) + text[at + width:]
            for read in (read_book, read_drawer):
                at = wrong_line(text, read == read_drawer)
                if at is None:
                    fine += 1
                    self.assertIsNone(raised(read, text), text)
                    written = write_drawer(read(text)) if read == read_drawer else write_book(read(text))
                    self.assertEqual(written, text)
                else:
                    self.assertEqual(raised(read, text), (InvalidText, {"at": at}), text)
        self.assertTrue(200 < fine < 4000, fine)


if __name__ == "__main__":
    unittest.main()
