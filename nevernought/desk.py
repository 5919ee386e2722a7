"""A desk that answers lines of words about a book."""

from nevernought.alike import alike, commute
from nevernought.book import Book
from nevernought.errors import Missing, NeverError
from nevernought.shares import share_text
from nevernought.steady import machine_of
from nevernought.terms import is_letter, parts


def yes_or_no(right):
    """An answer."""
    return "yes" if right else "no"


def listed(names):
    """Names with a blank between."""
    return " ".join(names) if names else "none"


def done(book, words):
    """Does a deed."""
    book.do(tuple(words))
    return "done"


def undone(book, words):
    """Takes a step back."""
    book.undo()
    return "done"


def done_again(book, words):
    """Does a step again."""
    book.redo()
    return "done"


def names_told(book, words):
    """The names of the lines."""
    return listed(book.names())


def claims_told(book, words):
    """The names of the claims."""
    return listed(book.claims())


def text_told(book, words):
    """A line as written, or a claim's three words."""
    if words[1] in book.claims():
        return " ".join(list(book.claim(words[1])))
    return book.text_of(words[1])


def parts_told(book, words):
    """How many parts a line's reckoning has."""
    return str(parts(book.term_of(words[1])))


def alike_told(book, words):
    """Whether two lines are alike."""
    return yes_or_no(alike(book.term_of(words[1]), book.term_of(words[2]))[0] == "alike")


def commute_told(book, words):
    """Whether the products of two lines are alike both ways."""
    return yes_or_no(commute(book.term_of(words[1]), book.term_of(words[2])))


def rooms_told(book, words):
    """How many rooms a line's least machine has."""
    return str(len(machine_of(book.term_of(words[1]))))


def weight_told(book, words):
    """What a line weighs a word by."""
    return share_text(machine_of(book.term_of(words[1])).weight(tuple(words[2:])))


# For each form how many words it has, and what answers it.
LENGTHS = {"line": 3, "claim": 5, "drop": 2, "undo": 1, "redo": 1, "names": 1, "claims": 1, "text": 2, "parts": 2,
           "alike": 3, "commute": 3, "rooms": 2}
ANSWERS = {"line": done, "claim": done, "drop": done, "undo": undone, "redo": done_again, "names": names_told,
           "claims": claims_told, "text": text_told, "parts": parts_told, "alike": alike_told,
           "commute": commute_told, "rooms": rooms_told, "weight": weight_told}


def words_of(line):
    """The words of a line; the text of a deed is one of them, be it what it may."""
    words = line.split(" ")
    return line.split(" ", 2) if words[0] == "line" else words


def is_form(words):
    """Whether these are the words of one of the forms."""
    if words[0] == "weight":
        return len(words) > 1 and all([is_letter(word) for word in words[2:]])
    return LENGTHS.get(words[0]) == len(words)


class Desk:
    """Answers lines about its book."""

    def __init__(self, *, book=None):
        # A book without lines and claims is no less handed in than any other.
        self.book = Book() if book is None else book

    def say(self, line):
        """The answer to a line."""
        words = words_of(line)
        if not is_form(words):
            return "what"
        answer = ANSWERS[words[0]]
        try:
            return answer(self.book, words)
        except (NeverError, Missing) as why:
            return "no " + why.word
