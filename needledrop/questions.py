"""Questions to cards, and the cards for which they are answered wrongly."""

from needledrop.books import shown
from needledrop.checks import check_count, check_word, check_words, is_word
from needledrop.errors import InvalidQuestion, NothingLeft
from needledrop.masks import choices_up_to, coded_words, words_within
from needledrop.reading import readings

MOST_NODES = 24
MOST_LEVELS = 8
# How many items a node of each kind has.
LENGTHS = {"word": 2, "and": 3, "or": 3, "not": 2}


def has_form(node):
    """True if the node has the form of its kind, whatever its parts are."""
    if not isinstance(node, tuple) or len(node) == 0 or not isinstance(node[0], str):
        return False
    if LENGTHS.get(node[0]) != len(node):
        return False
    return node[0] != "word" or is_word(node[1])


def walked(question):
    """The nodes in their order before the first wrong one, and the path of that one or None."""
    nodes = []
    waiting = [(question, ())]
    while waiting:
        node, path = waiting.pop()
        if not has_form(node) or len(path) == MOST_LEVELS or len(nodes) == MOST_NODES:
            return nodes, path
        nodes.append(node)
        if node[0] != "word":
            # The last one is taken first, so the parts wait from right to left.
            waiting.extend([(node[at], path + (at,)) for at in range(len(node) - 1, 0, -1)])
    return nodes, None


def checked_nodes(question):
    """The nodes of the question in their order; InvalidQuestion is raised if one is wrong."""
    nodes, path = walked(question)
    if path is not None:
        raise InvalidQuestion(path)
    return nodes


def asked_words(question):
    """The words of the question in the order of its nodes."""
    return [node[1] for node in checked_nodes(question) if node[0] == "word"]


def check_question(book, question):
    """Raise what is due if this is not a question about words of the book."""
    for word in asked_words(question):
        check_word(book, word)


def holds(question, words):
    """True if the question comes out true where just these words are true."""
    kind = question[0]
    if kind == "word":
        return question[1] in words
    if kind == "not":
        return not holds(question[1], words)
    if kind == "and":
        return holds(question[1], words) and holds(question[2], words)
    return holds(question[1], words) or holds(question[2], words)


def question_words(question):
    """The words of the question, in ascending order and each once."""
    return sorted(set(asked_words(question)))


def right(book, question, words):
    """True if the question is right for a card that bears the words."""
    check_question(book, question)
    check_words(book, words)
    return holds(question, words)


def fallen(book, question, holes):
    """True if the question comes out true for the words that fall for the holes."""
    check_question(book, question)
    return holds(question, shown(book, holes))


def asked_cards(book, question, k):
    """Tuples of the words of each card, whether it is told, and whether the question is right for it."""
    check_question(book, question)
    check_count(k)
    coded = coded_words(book)
    return [(words, holds(question, words_within(coded, mask)), holds(question, words))
            for words, mask in choices_up_to(coded, k)]


def first_card(found):
    """The first of the cards that were found, as a list of its words, or None."""
    if len(found) == 0:
        return None
    return list(found[0])


def extra(book, question, k):
    """The first card that is told although the question is not right for it, or None."""
    return first_card([words for words, told, fits in asked_cards(book, question, k) if told and not fits])


def lost(book, question, k):
    """The first card that is not told although the question is right for it, or None."""
    return first_card([words for words, told, fits in asked_cards(book, question, k) if fits and not told])


def wrong_card(book, question, k):
    """The first card that is told wrongly, or wrongly not told, or None."""
    return first_card([words for words, told, fits in asked_cards(book, question, k) if told != fits])


def alike_questions(book, first, second, k):
    """The first card that is told by only one of the questions, or None."""
    check_question(book, first)
    check_question(book, second)
    check_count(k)
    coded = coded_words(book)
    for words, mask in choices_up_to(coded, k):
        falling = words_within(coded, mask)
        if holds(first, falling) != holds(second, falling):
            return list(words)
    return None


def blurred(book, question, k):
    """Two cards with the same holes, of which the question is right for the first alone, or None."""
    check_question(book, question)
    check_count(k)
    fitting = {}
    others = {}
    for words, mask in choices_up_to(coded_words(book), k):
        if holds(question, words):
            fitting[mask] = words
        else:
            others[mask] = words
        if mask in fitting and mask in others:
            return list(fitting[mask]), list(others[mask])
    return None


def answer(book, question, holes, k, *, torn=0):
    """Whether the question is right for each reading of the holes, or None if readings differ."""
    check_question(book, question)
    answers = [holds(question, words) for words in readings(book, holes, k, torn)]
    if len(answers) == 0:
        raise NothingLeft("reading")
    if all(answers):
        return True
    if any(answers):
        return None
    return False
