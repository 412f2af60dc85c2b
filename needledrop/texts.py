"""Books, drawers and questions as texts."""

from needledrop.books import Book
from needledrop.checks import LETTERS, LONGEST_WORD, MOST_HOLES, MOST_WORDS, is_code, is_word
from needledrop.drawer import Drawer
from needledrop.errors import InvalidText, LimitExceeded
from needledrop.holdings import GREATEST_NUMBER, MOST_CARDS
from needledrop.questions import checked_nodes, walked

DIGITS = "0123456789"
MOST_DIGITS = 10
LONGEST_TEXT = 200
# How tightly the signs of a question bind; a bracket ends what is joined.
BINDING = {"(": 0, "|": 1, "&": 2, "!": 3}


def write_book(book):
    """The text of the book."""
    rows = ["holes " + str(book.n)]
    for word, code in book.codes().items():
        rows.append(" ".join(["code", word] + [str(hole) for hole in code]))
    return "".join([row + "\n" for row in rows])


def write_drawer(drawer):
    """The text of the drawer."""
    rows = [" ".join(["card", str(number)] + words) for number, words in drawer.cards()]
    return write_book(drawer.book) + "".join([row + "\n" for row in rows])


def read_number(text):
    """The number that the text is, or None if it is no number of at most ten digits."""
    if not 1 <= len(text) <= MOST_DIGITS or not all([digit in DIGITS for digit in text]):
        return None
    if text[0] == "0" and len(text) > 1:
        return None
    return int(text)


def read_holes(parts):
    """The number of holes that a holes line tells, or None if the line is wrong."""
    if len(parts) != 2 or parts[0] != "holes":
        return None
    n = read_number(parts[1])
    if n is None or not 1 <= n <= MOST_HOLES:
        return None
    return n


def read_code(n, codes, parts):
    """The word and the code of a code line behind the lines of these codes, or None if it is wrong."""
    if len(parts) < 2 or len(codes) >= MOST_WORDS:
        return None
    word = parts[1]
    code = [read_number(part) for part in parts[2:]]
    if not is_word(word) or word <= max(list(codes), default="") or not is_code(n, code):
        return None
    return word, code


def read_card(codes, borne, parts):
    """The number and the words of a card line behind the lines of these cards, or None if it is wrong."""
    if len(parts) < 2 or len(borne) >= MOST_CARDS:
        return None
    number = read_number(parts[1])
    words = parts[2:]
    if number is None or not max(list(borne), default=0) < number <= GREATEST_NUMBER:
        return None
    if words != sorted(set(words)) or not all([word in codes for word in words]):
        return None
    return number, words


def read_lines(text, with_cards):
    """The number of holes, the codes, and the words of the cards by number that the text tells."""
    if not isinstance(text, str):
        raise InvalidText(0)
    *lines, unended = text.split("\n")
    n = read_holes(lines[0].split(" ")) if len(lines) > 0 else None
    if n is None:
        raise InvalidText(1)
    codes = {}
    borne = {}
    for at in range(1, len(lines)):
        parts = lines[at].split(" ")
        row = None
        rows = codes if parts[0] == "code" else borne
        if parts[0] == "code" and len(borne) == 0:
            row = read_code(n, codes, parts)
        elif parts[0] == "card" and with_cards:
            row = read_card(codes, borne, parts)
        if row is None:
            raise InvalidText(at + 1)
        rows[row[0]] = row[1]
    if unended != "":
        raise InvalidText(len(lines) + 1)
    return n, codes, borne


def read_book(text):
    """The book with this text."""
    n, codes, _ = read_lines(text, False)
    return Book(n, codes)


def read_drawer(text):
    """A drawer with the book and the cards of this text."""
    n, codes, borne = read_lines(text, True)
    return Drawer.numbered(Book(n, codes), borne, max(list(borne), default=0))


def word_at(text, at):
    """The word of at most eight letters that begins there, or nothing if there is no letter."""
    end = at
    while end < len(text) and end - at < LONGEST_WORD and text[end] in LETTERS:
        end = end + 1
    return text[at:end]


def join_parts(parts, signs, binding):
    """Make nodes of the last parts and signs, as long as the signs bind so tightly."""
    while signs and BINDING[signs[-1]] >= binding:
        sign = signs.pop()
        last = parts.pop()
        if sign == "!":
            parts.append(("not", last))
        else:
            left = parts.pop()
            parts.append(("and" if sign == "&" else "or", left, last))


def read_expression(text):
    """The nested tuple that the text tells; InvalidText tells where the text goes wrong."""
    # Lists instead of calls within calls: a text may have very many brackets.
    parts = []
    signs = []
    factor_due = True
    at = 0
    while at < len(text):
        sign = text[at]
        word = word_at(text, at)
        if factor_due and word != "":
            parts.append(("word", word))
            factor_due = False
        elif factor_due and sign in ("!", "("):
            signs.append(sign)
        elif not factor_due and sign in ("&", "|"):
            join_parts(parts, signs, BINDING[sign])
            signs.append(sign)
            factor_due = True
        elif not factor_due and sign == ")" and "(" in signs:
            join_parts(parts, signs, BINDING["|"])
            signs.pop()
        elif sign != " ":
            raise InvalidText(at)
        at = at + max(1, len(word))
    if factor_due or "(" in signs:
        raise InvalidText(len(text))
    join_parts(parts, signs, BINDING["|"])
    return parts[0]


def read_question(text):
    """The question with this text."""
    if not isinstance(text, str):
        raise InvalidText(-1)
    if len(text) > LONGEST_TEXT:
        raise LimitExceeded("text")
    question = read_expression(text)
    _, wrong = walked(question)
    if wrong is not None:
        raise LimitExceeded("question")
    return question


def in_brackets(part, kinds):
    """The text of the part, in brackets if it is of one of these kinds."""
    if part[0] in kinds:
        return "(" + written(part) + ")"
    return written(part)


def written(question):
    """The text of the question."""
    kind = question[0]
    if kind == "word":
        return question[1]
    if kind == "not":
        return "!" + in_brackets(question[1], ("and", "or"))
    if kind == "and":
        return in_brackets(question[1], ("or",)) + " & " + in_brackets(question[2], ("and", "or"))
    return written(question[1]) + " | " + in_brackets(question[2], ("or",))


def write_question(question):
    """The text of the question, with as few brackets as possible."""
    checked_nodes(question)
    return written(question)
