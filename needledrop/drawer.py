"""Drawers of cards, which remember what was done to them."""

from needledrop.books import notches, within
from needledrop.checks import check_holes, is_integer, is_list
from needledrop.errors import InvalidCard, NothingLeft
from needledrop.holdings import MOST_CARDS, behind_all, ordered_words, reported, with_book, with_card
from needledrop.holdings import with_code, with_words, without_card, words_on
from needledrop.questions import check_question, fallen, right


class Drawer:
    """A book, cards that bear its words, and a history of deeds."""

    def __init__(self, book):
        self._holding = (book, {}, 0)
        # What was held before each deed that can be undone, and behind each
        # one that can be redone; the deed that is next stands last.
        self._before = []
        self._behind = []

    @classmethod
    def of(cls, book, cards):
        """A drawer with these cards, numbered from 1 on."""
        if not is_list(cards) or len(cards) > MOST_CARDS:
            raise InvalidCard(-1)
        borne = {at + 1: ordered_words(book, words) for at, words in enumerate(cards)}
        return cls.numbered(book, borne, len(borne))

    @classmethod
    def numbered(cls, book, borne, last):
        """A drawer with this last number; borne has the words of the cards by their numbers, in order."""
        drawer = cls(book)
        drawer._holding = (book, {number: tuple(words) for number, words in borne.items()}, last)
        return drawer

    def _do(self, holding):
        """Hold this from now on, by a deed."""
        self._before.append(self._holding)
        self._behind = []
        self._holding = holding

    def put(self, words):
        """Put a card with these words, and tell its number."""
        self._do(with_card(self._holding, words))
        _, _, last = self._holding
        return last

    def __iadd__(self, words):
        self._do(with_card(self._holding, words))
        return self

    def __getitem__(self, number):
        return list(words_on(self._holding, number))

    def __setitem__(self, number, words):
        self._do(with_words(self._holding, number, words))

    def __iter__(self):
        raise TypeError("a drawer is not iterated over")

    def strike(self, number):
        """Take the card away."""
        self._do(without_card(self._holding, number))

    def holes(self, number):
        """The open holes of the card."""
        book, _, _ = self._holding
        return notches(book, words_on(self._holding, number))

    def __contains__(self, number):
        _, borne, _ = self._holding
        return is_integer(number) and number in borne

    def __len__(self):
        return len(self._holding[1])

    def numbers(self):
        """The numbers of the cards in ascending order."""
        _, borne, _ = self._holding
        return list(borne)

    def cards(self):
        """Yield tuples of the number and the words of each card."""
        _, borne, _ = self._holding
        for number, words in borne.items():
            yield (number, list(words))

    @property
    def book(self):
        """The book by which the cards are notched."""
        return self._holding[0]

    @book.setter
    def book(self, value):
        self._do(with_book(self._holding, value))

    def recode(self, word, code):
        """Give the word this code, and notch all cards anew."""
        self._do(with_code(self._holding, word, code))

    def needle(self, holes):
        """The numbers of the cards on which all the holes are open."""
        book, borne, _ = self._holding
        check_holes(book, holes)
        return [number for number, words in borne.items() if within(holes, notches(book, words))]

    def _asked(self, question):
        """Tuples of the number of each card, whether it is told, and whether the question is right for it."""
        book, borne, _ = self._holding
        check_question(book, question)
        return [(number, fallen(book, question, notches(book, words)), right(book, question, words))
                for number, words in borne.items()]

    def __call__(self, question):
        return [number for number, told, _ in self._asked(question) if told]

    def false(self, question):
        """The numbers of the cards that are told although the question is not right for them."""
        return [number for number, told, fits in self._asked(question) if told and not fits]

    def missing(self, question):
        """The numbers of the cards that are not told although the question is right for them."""
        return [number for number, told, fits in self._asked(question) if fits and not told]

    def report(self):
        """Tuples of the number of each card, its words, and the words that it shows falsely."""
        return reported(self._holding)

    def undo(self):
        """Go back to before the last deed that is not undone."""
        if len(self._before) == 0:
            raise NothingLeft("undo")
        self._behind.append(self._holding)
        self._holding = self._before.pop()

    def redo(self):
        """Do the deed again that was undone last."""
        if len(self._behind) == 0:
            raise NothingLeft("redo")
        self._before.append(self._holding)
        self._holding = self._behind.pop()

    def twin(self):
        """A drawer that holds the same, without a history."""
        book, borne, last = self._holding
        return Drawer.numbered(book, borne, last)

    def attempt(self, deeds):
        """Do all the deeds as one, or none of them, and tell what they answer."""
        holding, told = behind_all(self._holding, deeds)
        self._do(holding)
        return told

    def trial(self, deeds):
        """What report would return behind the deeds, of which none is done."""
        holding, _ = behind_all(self._holding, deeds)
        return reported(holding)
