"""Books as pages of text."""

from nevernought.book import Book
from nevernought.errors import BadPage, Missing, NeverError
from nevernought.formulas import in_order


def line_row(book, name):
    """The row of a line."""
    return f"line {name} {book.text_of(name)}"


def claim_row(book, name):
    """The row of a claim."""
    word, one, other = book.claim(name)
    return f"claim {name} {word} {one} {other}"


def rows_of(book):
    """The rows of a book's page."""
    told = [line_row(book, name) for name in in_order(book.now.formulas, book.names())]
    return told + [claim_row(book, name) for name in book.claims()]


def page(book):
    """The book as a page of text."""
    return "".join([row + "\n" for row in rows_of(book)])


def deed_of(row):
    """The deed that a row tells, or what is none."""
    words = row.split(" ")
    return tuple(row.split(" ", 2)) if words[0] == "line" else tuple(words)


def read_page(text):
    """The book of a page, with nothing to take back; BadPage."""
    rows = text.split("\n")
    last = rows.pop()
    book = Book()
    for at, row in enumerate(rows):
        try:
            book.do(deed_of(row))
        except (NeverError, Missing):
            raise BadPage(at) from None
        # What the rows up to here tell has just these rows, or the last one isn't written so or comes too late.
        if rows_of(book) != rows[:at + 1]:
            raise BadPage(at)
    if last != "":
        raise BadPage(len(rows))
    told = Book()
    told.now = book.now
    return told
